/- Texts ValQ, Spec, CutJ, joined. -/
import Derived.Test.YtaldgjcbbjjceaaG27
import Derived.Test.YtaldgjcbbjjceaaG23
import Derived.Test.YtaldgjcbbjjceaaG24
import Derived.Test.YtaldgjcbbjjceaaG09
/- Walks: Value, of any kind, at any cut of any logs. -/
namespace Go.Proofs.Ytaldgjcbbjjceaa
open Go.RowKit Go.Joins
set_option linter.unusedSimpArgs false
set_option linter.unusedVariables false

/-- A deed with no place in memory. -/
def toD (x : TX × Nat) : DD := ⟨0, 0, x.1, x.2⟩
def erD (d : DD) : DD := toD (d.t, d.i)
theorem erD_all (D : List DD) : (dsh D).map toD = D.map erD := by
  unfold dsh
  rw [List.map_map]
  rfl
theorem kindF_er (k : Int) (D : List DD) : kindF k (D.map erD) = (kindF k D).map erD := by
  unfold kindF
  rw [List.filter_map]
  rfl
theorem sumD_er (D : List DD) : ∀ j, sumD (D.map erD) j = sumD D j
  | 0 => rfl
  | j + 1 => by
    show sumD (D.map erD) j + _ = sumD D j + _
    rw [sumD_er D j, List.getElem?_map]
    cases D[j]? <;> rfl
theorem totD_er (s : Int) (D : List DD) : totD s (D.map erD) = totD s D := by
  unfold totD
  rw [kindF_er, kindF_er, sumD_er, sumD_er, List.length_map, List.length_map]
theorem seenF_er (L : List DD) : ∀ j, seenF (L.map erD) j = seenF L j
  | 0 => rfl
  | j + 1 => by
    cases h : L[j]? with
    | none =>
      show (match (L.map erD)[j]? with | some d => _ | none => _) = (match L[j]? with | some d => _ | none => _)
      rw [List.getElem?_map, h]
      exact seenF_er L j
    | some d =>
      rw [seenF_at h, seenF_at (L := L.map erD) (d := erD d) (by rw [List.getElem?_map, h]; rfl), seenF_er L j]
      rfl
theorem unsL_er (a b : Int) (D : List DD) : unsL a b (D.map erD) = (unsL a b D).map erD := by
  unfold unsL
  rw [kindF_er, kindF_er, List.length_map, seenF_er, List.filter_map]
  rfl
theorem elemsD_er (D : List DD) : elemsD (D.map erD) = elemsD D := by
  unfold elemsD
  rw [List.map_map]
  rfl
theorem topD_er (D : List DD) : topD (D.map erD) = (topD D).map erD := by
  have h : ∀ (D : List DD) (o : Option DD), (D.map erD).foldl topN (o.map erD) = (D.foldl topN o).map erD := by
    intro D
    induction D with
    | nil => intro o; rfl
    | cons d r ih =>
      intro o
      rw [List.map_cons, List.foldl_cons, List.foldl_cons, ← ih]
      congr 1
      cases o with
      | none => rfl
      | some t =>
        show topN (some (erD t)) (erD d) = _
        by_cases hle : t.t.stamp ≤ d.t.stamp
        · rw [topN_yes hle, topN_yes (t := erD t) (d := erD d) hle]; rfl
        · rw [topN_no hle, topN_no (t := erD t) (d := erD d) hle]; rfl
  exact h D none
theorem valR_er (kind start : Int) (D : List DD) : valR kind start (D.map erD) = valR kind start D := by
  have e1 : firmL (D.map erD) = firmL D := by unfold firmL; rw [kindF_er, unsL_er, elemsD_er, elemsD_er]
  have e2 : lastL (D.map erD) = lastL D := by
    unfold lastL
    rw [kindF_er, topD_er]
    cases topD (kindF 6 D) <;> rfl
  have e3 : onB start (D.map erD) = onB start D := by unfold onB; rw [unsL_er, kindF_er, List.length_map, List.length_map]
  unfold valR
  rw [totD_er, unsL_er, unsL_er, elemsD_er, elemsD_er, e1, e2, e3]
/-- Which error Value answers. -/
def valE (kind : Int) (l : LG) (v : Nat → Nat) : Nat := if kind < 1 ∨ 8 < kind then 100 else if checkE l = 0 then (if closedB l v = true then 0 else 92) else checkE l
/-- A key's value at a closed cut. -/
def valAt (kind start : Int) (l : LG) (v : Nat → Nat) (key : ByteArray) : VR := valR kind start ((dAll key l v 8).map toD)
def valV (kind start : Int) (l : LG) (v : Nat → Nat) (key : ByteArray) : VR := if valE kind l v = 0 then valAt kind start l v key else ⟨0, [], false⟩
def RetValE (r : VR) (k : Nat) (w : World) (e : Ending) (w' : World) : Prop := ∃ ve, e = .returned (.tuple #[.agg #[.int .i64 r.n, ve, .bool r.on], .int .i64 (k : Int)]) ∧ SO w' w.heap.size ve r.e ∧ Gr w w'
theorem dsh_elems {key : ByteArray} {l : LG} {v : Nat → Nat} (hl : OkL l) {D : List DD} (h : dsh D = dAll key l v 8) : ∀ d ∈ D, d.op.elem.size ≤ 32 ∧ d.i < d.t.ops.length := by
  have hmem : ∀ x ∈ dAll key l v 8, ∃ (i : Nat) (_ : i < 8), x.1 ∈ l i ∧ x.2 < x.1.ops.length := by
    have h1 : ∀ (t : TX) j, j ≤ t.ops.length → ∀ x ∈ dTx key t j, x.1 = t ∧ x.2 < t.ops.length := by
      intro t j
      induction j with
      | zero => intro _ x hx; cases hx
      | succ j ih =>
        intro hj x hx
        unfold dTx at hx
        rcases List.mem_append.1 hx with hx | hx
        · exact ih (by omega) x hx
        · split at hx
          · split at hx
            · obtain rfl := List.mem_singleton.1 hx
              exact ⟨rfl, hj⟩
            · cases hx
          · cases hx
    have h2 : ∀ i d, ∀ x ∈ dLog key l i d, x.1 ∈ l i ∧ x.2 < x.1.ops.length := by
      intro i d
      induction d with
      | zero => intro x hx; cases hx
      | succ d ih =>
        intro x hx
        unfold dLog at hx
        rcases List.mem_append.1 hx with hx | hx
        · exact ih x hx
        · split at hx
          · next t ht =>
            obtain ⟨rfl, hlt⟩ := h1 t _ (Nat.le_refl _) x hx
            exact ⟨List.mem_of_getElem? ht, hlt⟩
          · cases hx
    have h3 : ∀ n, n ≤ 8 → ∀ x ∈ dAll key l v n, ∃ (i : Nat) (_ : i < 8), x.1 ∈ l i ∧ x.2 < x.1.ops.length := by
      intro n
      induction n with
      | zero => intro _ x hx; cases hx
      | succ n ih =>
        intro hn x hx
        unfold dAll at hx
        rcases List.mem_append.1 hx with hx | hx
        · exact ih (by omega) x hx
        · exact ⟨n, by omega, h2 n _ x hx⟩
    exact h3 8 (Nat.le_refl _)
  intro d hd
  obtain ⟨i, hi, hm, hlt⟩ := hmem (d.t, d.i) (by rw [← h]; exact List.mem_map.2 ⟨d, hd, rfl⟩)
  obtain ⟨k, hk⟩ := List.mem_iff_getElem?.1 hm
  have hok := (hl.tx i k d.t hi hk).1
  have hop : d.op = d.t.ops[d.i] := by
    unfold DD.op
    rw [List.getD_eq_getElem?_getD, List.getElem?_eq_getElem hlt]
    rfl
  refine ⟨?_, hlt⟩
  rw [hop]
  exact (hok.2.2.2 _ (List.getElem_mem hlt)).2.1
set_option maxRecDepth 100000 in
set_option maxHeartbeats 4000000 in
theorem value_any (kind start : Int) (u : Nat → S3) (l : LG) (v : Nat → Nat) (key : ByteArray) (w : World) (h : LV w u l) (hq : FitQ l) (hb : wrap64 start = start) :
    Calls Try.prog 12 #[.int .i64 kind, .int .i64 start, .agg (lcells u), .agg (vcells v), .string key] w fun e w' => RetValE (valV kind start l v key) (valE kind l v) w e w' := by
  obtain ⟨W, hW, hg, hL, hV, hz⟩ := boxesVa u v w
  have HSW : Hid (w.heap.size + 1 + 1 < W.heap.size) := Lib.hid (by rw [hW]; simp)
  have HL := Lib.hid hL
  have HV := Lib.hid hV
  have HZ := Lib.hid hz
  have HG := Lib.hid hg
  have hz0 := HZ.out
  have z0 : W.cell? ⟨w.heap.size + 1 + 1, 0, none⟩ = some (.int .i64 0) := by rw [cell_of_block hz0]; rfl
  have z1 : W.cell? ⟨w.heap.size + 1 + 1, 1, none⟩ = some (.slice none 0 0) := by rw [cell_of_block hz0]; rfl
  have z2 : W.cell? ⟨w.heap.size + 1 + 1, 2, none⟩ = some (.bool false) := by rw [cell_of_block hz0]; rfl
  have k0 := unfrozen_of_block hz0 0
  have k1 := unfrozen_of_block hz0 1
  have k2 := unfrozen_of_block hz0 2
  by_cases hk1 : kind < 1
  · have HE : Hid (valE kind l v = 100) := Lib.hid (by unfold valE; rw [if_pos (.inl hk1)])
    have HR : Hid (valV kind start l v key = ⟨0, [], false⟩) := Lib.hid (by unfold valV; rw [HE.out]; rfl)
    have d1 : decide (kind < 1) = true := decide_eq_true hk1
    rw [HE.out, HR.out]
    clear hL hV hz hg h hq hb hz0
    go_enter Try.func12, Try.ntmps12
    go_upto_region 1 with (fail)
    rw [← hW]
    clear hW
    go_wp2_with fail
    refine bodyPost_ret (v := .tuple #[.agg (valv 0), .int .i64 100]) (by simp [results, Try.results12, go_sem, *]) rfl ⟨_, rfl, SO.nil _ _, ?_⟩
    show Gr w (((W.setCell _ _).setCell _ _).setCell _ _)
    exact ((HG.out.setCell (by simp only []; omega) _).setCell (by simp only []; omega) _).setCell (by simp only []; omega) _
  by_cases hk8 : 8 < kind
  · have HE : Hid (valE kind l v = 100) := Lib.hid (by unfold valE; rw [if_pos (.inr hk8)])
    have HR : Hid (valV kind start l v key = ⟨0, [], false⟩) := Lib.hid (by unfold valV; rw [HE.out]; rfl)
    have d1 : decide (kind < 1) = false := decide_eq_false hk1
    have d2 : decide (8 < kind) = true := decide_eq_true hk8
    rw [HE.out, HR.out]
    clear hL hV hz hg h hq hb hz0
    go_enter Try.func12, Try.ntmps12
    go_upto_region 1 with (fail)
    rw [← hW]
    clear hW
    go_wp2_with fail
    refine bodyPost_ret (v := .tuple #[.agg (valv 0), .int .i64 100]) (by simp [results, Try.results12, go_sem, *]) rfl ⟨_, rfl, SO.nil _ _, ?_⟩
    show Gr w (((W.setCell _ _).setCell _ _).setCell _ _)
    exact ((HG.out.setCell (by simp only []; omega) _).setCell (by simp only []; omega) _).setCell (by simp only []; omega) _
  have hkk : ¬ (kind < 1 ∨ 8 < kind) := by omega
  have HKK : Hid (1 ≤ kind ∧ kind ≤ 8) := Lib.hid (by omega)
  have d1 : decide (kind < 1) = false := decide_eq_false hk1
  have d2 : decide (8 < kind) = false := decide_eq_false hk8
  have HCK := Lib.hid (fun w1 (g : Gr W w1) => check9_any u l w1 ((h.gr hg).gr g) hq)
  obtain ⟨l0, l1, l2, l3, l4, l5, l6, l7⟩ := hL.all
  obtain ⟨ce, hce⟩ : ∃ c, c = checkE l := ⟨_, rfl⟩
  rw [← hce] at HCK
  by_cases hc0 : ce = 0
  · have hok : checkE l = 0 := by rw [← hce]; exact hc0
    have HCL := Lib.hid (fun w1 (g : Gr W w1) => closed_any u l v w1 ((h.gr hg).gr g))
    subst hc0
    by_cases hcl : closedB l v = true
    · have HE : Hid (valE kind l v = 0) := Lib.hid (by unfold valE; rw [if_neg hkk, if_pos hok, if_pos hcl])
      have HR : Hid (valV kind start l v key = valAt kind start l v key) := Lib.hid (by unfold valV; rw [HE.out]; rfl)
      have hclp := closedB_iff.1 hcl
      rw [hcl] at HCL
      have hl := okL_iff.1 hok
      have HOL := Lib.hid hl
      have hop : ∀ i t, i < 8 → t ∈ l i → t.ops.length ≤ 8 := fun i t hi ht => by
        obtain ⟨k, hk⟩ := List.mem_iff_getElem?.1 ht
        exact (hl.tx i k t hi hk).1.2.2.1
      have hvl : ∀ i, i < 8 → v i ≤ 1024 := fun i hi => Nat.le_trans (lq hclp.1 hi) (hl.len i hi)
      have HDS := Lib.hid (fun w1 (g : Gr W w1) => deeds_any u l v key w1 ((h.gr hg).gr g) hclp.1 hop hvl)
      have HDA := Lib.hid (dAll_len key l v hop hvl 8 (Nat.le_refl _))
      have HBD := Lib.hid hb
      obtain ⟨r, hr⟩ : ∃ r, r = valAt kind start l v key := ⟨_, rfl⟩
      rw [HE.out, HR.out, ← hr]
      have HVR := Lib.hid hr
      clear hr
      clear hL hV hz hg h hq hb hz0 hok hcl hclp hl hop hvl z0 z1 z2 k0 k1 k2 hce hkk hk1 hk8
      go_enter Try.func12, Try.ntmps12
      go_upto_region 1 with (fail)
      rw [← hW]
      clear hW
      go_wp2_with fail
      refine (HCK.out _ (Gr.refl _)).mono ?_
      rintro e w2 ⟨rfl, g2⟩
      have HG2 := Lib.hid g2
      clear g2 l0 l1 l2 l3 l4 l5 l6 l7
      obtain ⟨l0, l1, l2, l3, l4, l5, l6, l7⟩ := (HL.out.gr HG2.out).all
      obtain ⟨v0, v1, v2, v3, v4, v5, v6, v7⟩ := (HV.out.gr HG2.out).all
      go_wp2_with fail
      refine (HCL.out _ HG2.out).mono ?_
      rintro e w3 ⟨rfl, g3⟩
      have HG3 := Lib.hid (HG2.out.trans g3)
      clear g3 l0 l1 l2 l3 l4 l5 l6 l7 v0 v1 v2 v3 v4 v5 v6 v7
      obtain ⟨l0, l1, l2, l3, l4, l5, l6, l7⟩ := (HL.out.gr HG3.out).all
      obtain ⟨v0, v1, v2, v3, v4, v5, v6, v7⟩ := (HV.out.gr HG3.out).all
      go_wp2_with fail
      refine (HDS.out _ HG3.out).mono ?_
      rintro e w4 ⟨s, D, rfl, hd⟩
      have HG4 := Lib.hid (HG3.out.trans hd.gr)
      have hlen : D.length ≤ 65536 := by
        have e1 : D.length = (dsh D).length := (List.length_map _).symm
        rw [e1, hd.sh]
        have := HDA.out
        omega
      have hel : ∀ d ∈ D, d.op.elem.size ≤ 281474976710656 := fun d hdd => by
        have := (dsh_elems HOL.out hd.sh d hdd).1
        omega
      have HVO := Lib.hid (valueOf_any kind start HKK.out s D w4 hd.own.dv (hd.xs.gr hd.gr) hlen hel HBD.out)
      have HVE : Hid (valR kind start D = valAt kind start l v key) := Lib.hid (by unfold valAt; rw [← hd.sh, erD_all, valR_er])
      rw [HVE.out, ← HVR.out] at HVO
      have HSZ4 : Hid (w.heap.size + 1 + 1 < w4.heap.size) := Lib.hid (Nat.lt_of_lt_of_le HSW.out HG4.out.size)
      obtain ⟨A, c, rfl⟩ := slice_dd hd.own
      obtain ⟨n, hn⟩ : ∃ n, n = D.length := ⟨_, rfl⟩
      rw [← hn] at HVO ⊢
      clear hd hlen hel hn l0 l1 l2 l3 l4 l5 l6 l7 v0 v1 v2 v3 v4 v5 v6 v7
      clear HVE
      go_wp2_with fail
      refine HVO.out.mono ?_
      rintro e w5 ⟨ve, rfl, ho, g5⟩
      have HG5 := Lib.hid (HG4.out.trans g5)
      have HO := Lib.hid ho
      obtain ⟨Ae, ceq, hve, -, -⟩ := own_form ho
      subst hve
      obtain ⟨m, hm⟩ : ∃ m, m = r.e.length := ⟨_, rfl⟩
      rw [← hm] at HO ⊢
      have hz2 := gr_obj HG5.out HZ.out
      have z0 : w5.cell? ⟨w.heap.size + 1 + 1, 0, none⟩ = some (.int .i64 0) := by rw [cell_of_block hz2]; rfl
      have z1 : w5.cell? ⟨w.heap.size + 1 + 1, 1, none⟩ = some (.slice none 0 0) := by rw [cell_of_block hz2]; rfl
      have z2 : w5.cell? ⟨w.heap.size + 1 + 1, 2, none⟩ = some (.bool false) := by rw [cell_of_block hz2]; rfl
      have k0 := unfrozen_of_block hz2 0
      have k1 := unfrozen_of_block hz2 1
      have k2 := unfrozen_of_block hz2 2
      obtain ⟨rn, hrn⟩ : ∃ x, x = r.n := ⟨_, rfl⟩
      obtain ⟨ron, hron⟩ : ∃ x, x = r.on := ⟨_, rfl⟩
      rw [← hrn, ← hron]
      have HRR := Lib.hid (And.intro hrn hron)
      clear g5 hz2 ho hm hrn hron
      go_wp2_with fail
      refine bodyPost_ret (v := .tuple #[.agg #[.int .i64 rn, .slice Ae m ceq, .bool ron], .int .i64 0]) (by simp [results, Try.results12, go_sem, *]) rfl ⟨_, by rw [← HRR.out.1, ← HRR.out.2]; rfl, ?_, ?_⟩
      · show SO (((w5.setCell _ _).setCell _ _).setCell _ _) _ _ _
        exact (HO.out.set3 HSZ4.out _ _ _).le (by have := HSZ4.out; omega)
      · show Gr w (((w5.setCell _ _).setCell _ _).setCell _ _)
        exact (((HG.out.trans HG5.out).setCell (by simp only []; omega) _).setCell (by simp only []; omega) _).setCell (by simp only []; omega) _
    · have hcl : closedB l v = false := Bool.eq_false_iff.2 hcl
      have HE : Hid (valE kind l v = 92) := Lib.hid (by unfold valE; rw [if_neg hkk, if_pos hok, hcl]; rfl)
      have HR : Hid (valV kind start l v key = ⟨0, [], false⟩) := Lib.hid (by unfold valV; rw [HE.out]; rfl)
      rw [hcl] at HCL
      rw [HE.out, HR.out]
      clear hL hV hz hg h hq hb hz0 hok hcl z0 z1 z2 k0 k1 k2 hce hkk hk1 hk8
      go_enter Try.func12, Try.ntmps12
      go_upto_region 1 with (fail)
      rw [← hW]
      clear hW
      go_wp2_with fail
      refine (HCK.out _ (Gr.refl _)).mono ?_
      rintro e w2 ⟨rfl, g2⟩
      have HG2 := Lib.hid g2
      clear g2 l0 l1 l2 l3 l4 l5 l6 l7
      obtain ⟨l0, l1, l2, l3, l4, l5, l6, l7⟩ := (HL.out.gr HG2.out).all
      obtain ⟨v0, v1, v2, v3, v4, v5, v6, v7⟩ := (HV.out.gr HG2.out).all
      go_wp2_with fail
      refine (HCL.out _ HG2.out).mono ?_
      rintro e w3 ⟨rfl, g3⟩
      have HG3 := Lib.hid (HG2.out.trans g3)
      clear g3 l0 l1 l2 l3 l4 l5 l6 l7 v0 v1 v2 v3 v4 v5 v6 v7
      have hz2 := gr_obj HG3.out HZ.out
      have z0 : w3.cell? ⟨w.heap.size + 1 + 1, 0, none⟩ = some (.int .i64 0) := by rw [cell_of_block hz2]; rfl
      have z1 : w3.cell? ⟨w.heap.size + 1 + 1, 1, none⟩ = some (.slice none 0 0) := by rw [cell_of_block hz2]; rfl
      have z2 : w3.cell? ⟨w.heap.size + 1 + 1, 2, none⟩ = some (.bool false) := by rw [cell_of_block hz2]; rfl
      have k0 := unfrozen_of_block hz2 0
      have k1 := unfrozen_of_block hz2 1
      have k2 := unfrozen_of_block hz2 2
      clear hz2
      go_wp2_with fail
      refine bodyPost_ret (v := .tuple #[.agg (valv 0), .int .i64 92]) (by simp [results, Try.results12, go_sem, *]) rfl ⟨_, rfl, SO.nil _ _, ?_⟩
      show Gr w (((w3.setCell _ _).setCell _ _).setCell _ _)
      exact (((HG.out.trans HG3.out).setCell (by simp only []; omega) _).setCell (by simp only []; omega) _).setCell (by simp only []; omega) _
  · have hok : ¬ checkE l = 0 := by rw [← hce]; exact hc0
    have HE : Hid (valE kind l v = ce) := Lib.hid (by unfold valE; rw [if_neg hkk, if_neg hok]; exact hce.symm)
    have HR : Hid (valV kind start l v key = ⟨0, [], false⟩) := Lib.hid (by unfold valV; rw [HE.out, if_neg hc0])
    have hc1 : ¬ (ce : Int) = 0 := by omega
    have hc2 : decide ((ce : Int) = 0) = false := decide_eq_false hc1
    have hc3 : ((ce : Int) == 0) = false := beq_eq_false_iff_ne.2 hc1
    rw [HE.out, HR.out]
    clear hL hV hz hg h hq hb hz0 hok z0 z1 z2 k0 k1 k2 hce hkk hk1 hk8
    go_enter Try.func12, Try.ntmps12
    go_upto_region 1 with (fail)
    rw [← hW]
    clear hW
    go_wp2_with fail
    refine (HCK.out _ (Gr.refl _)).mono ?_
    rintro e w3 ⟨rfl, g2⟩
    have HG3 := Lib.hid g2
    clear g2 l0 l1 l2 l3 l4 l5 l6 l7
    have hz2 := gr_obj HG3.out HZ.out
    have z0 : w3.cell? ⟨w.heap.size + 1 + 1, 0, none⟩ = some (.int .i64 0) := by rw [cell_of_block hz2]; rfl
    have z1 : w3.cell? ⟨w.heap.size + 1 + 1, 1, none⟩ = some (.slice none 0 0) := by rw [cell_of_block hz2]; rfl
    have z2 : w3.cell? ⟨w.heap.size + 1 + 1, 2, none⟩ = some (.bool false) := by rw [cell_of_block hz2]; rfl
    have k0 := unfrozen_of_block hz2 0
    have k1 := unfrozen_of_block hz2 1
    have k2 := unfrozen_of_block hz2 2
    clear hz2
    go_wp2_with fail
    refine bodyPost_ret (v := .tuple #[.agg (valv 0), .int .i64 (ce : Int)]) (by simp [results, Try.results12, go_sem, *]) rfl ⟨_, rfl, SO.nil _ _, ?_⟩
    show Gr w (((w3.setCell _ _).setCell _ _).setCell _ _)
    exact (((HG.out.trans HG3.out).setCell (by simp only []; omega) _).setCell (by simp only []; omega) _).setCell (by simp only []; omega) _
end Go.Proofs.Ytaldgjcbbjjceaa
/- What the operations of a region leave, each told by a predicate that keeps when boxes change. -/
namespace Go.Proofs.Ytaldgjcbbjjceaa
open Go.RowKit Go.Joins

/-- The types of which a region's own boxes are. -/
def btV (t : TypeId) : Bool := t == 24 || t == 27 || t == 32 || t == 57
theorem XN.keepsV {w w' : World} {B : Nat} {v : Value} {L : List TX} (h : XN w B v L) (k : Keeps btV w w') : XN w' B v L := by
  obtain ⟨R, h1, h2, h3⟩ := h
  exact ⟨R, h1, own_keeps h2 (by decide) k, fun r hr => own_keeps (h3 r hr) (by decide) k⟩
theorem LN.keepsV {w w' : World} {B : Nat} {u : Nat → S3} {l : LG} (h : LN w B u l) (k : Keeps btV w w') : LN w' B u l := fun i hi => (h i hi).keepsV k
theorem SO.keepsV {w w' : World} {B : Nat} {v : Value} {L : List ByteArray} (h : SO w B v L) (k : Keeps btV w w') : SO w' B v L := own_keeps h (by decide) k
structure Spec where
  P : World → Value → Prop
  st : ∀ y w1 w2, P w1 y → Keeps btV w1 w2 → P w2 y
def Spec.fix (v : Value) : Spec := ⟨fun _ y => y = v, fun _ _ _ h _ => h⟩
def Spec.any : Spec := ⟨fun _ _ => True, fun _ _ _ _ _ => trivial⟩
def Spec.logs (B : Nat) (L : LG) : Spec := ⟨fun w y => ∃ u, y = .agg (lcells u) ∧ LN w B u L, fun _ _ _ ⟨u, h1, h2⟩ k => ⟨u, h1, h2.keepsV k⟩⟩
def Spec.val (B : Nat) (n : Int) (m : Nat) (E : List ByteArray) (on : Bool) : Spec := ⟨fun w y => ∃ A c, y = .agg #[.int .i64 n, .slice A m c, .bool on] ∧ SO w B (.slice A m c) E, fun _ _ _ ⟨A, c, h1, h2⟩ k => ⟨A, c, h1, h2.keepsV k⟩⟩
def Spec.valE (B : Nat) (n : Int) (m : Nat) (E : List ByteArray) (on : Bool) (e : Nat) : Spec := ⟨fun w y => ∃ A c, y = .tuple #[.agg #[.int .i64 n, .slice A m c, .bool on], .int .i64 (e : Int)] ∧ SO w B (.slice A m c) E, fun _ _ _ ⟨A, c, h1, h2⟩ k => ⟨A, c, h1, h2.keepsV k⟩⟩
def Spec.txs (B : Nat) (m : Nat) (L : List TX) : Spec := ⟨fun w y => ∃ A c, y = .slice A m c ∧ XN w B (.slice A m c) L, fun _ _ _ ⟨A, c, h1, h2⟩ k => ⟨A, c, h1, h2.keepsV k⟩⟩
/-- Value's answer, its parts named. -/
theorem RetValE.form {r : VR} {k : Nat} {w : World} {e : Ending} {w' : World} (h : RetValE r k w e w') : ∃ A c, e = .returned (.tuple #[.agg #[.int .i64 r.n, .slice A r.e.length c, .bool r.on], .int .i64 (k : Int)]) ∧ SO w' w.heap.size (.slice A r.e.length c) r.e ∧ Gr w w' := by
  obtain ⟨ve, h1, h2, h3⟩ := h
  obtain ⟨A, c, hv, -, -⟩ := own_form h2
  subst hv
  exact ⟨A, c, h1, h2, h3⟩
end Go.Proofs.Ytaldgjcbbjjceaa
/- Walks: the document's Close. -/
namespace Go.Proofs.Ytaldgjcbbjjceaa
open Go.RowKit Go.Joins

/-- A transaction at this place depends on more than the cut: no closed cut within reaches it. -/
theorem close_cut {l : LG} {v0 v : Nat → Nat} {k d : Nat} {t : TX} (hk : k < 8) (ht : (l k)[d]? = some t) (h : ∀ u, closedP l u → leqB u v0 = true → leqB u v = true) (hn : leqB t.deps v = false) : ∀ u, closedP l u → leqB u v0 = true → leqB u (upd v k d) = true := by
  intro u hu h0
  have h1 := h u hu h0
  refine lq_of fun j hj => ?_
  unfold upd
  by_cases e : j = k
  · subst e
    rw [if_pos rfl]
    rcases Nat.lt_or_ge d (u j) with q | q
    · exfalso
      have := lq_trans (hu.2 j d t hj q ht) h1
      rw [hn] at this
      cases this
    · exact q
  · rw [if_neg e]
    exact lq h1 hj
/-- Of member j the first d transactions depend on nothing beyond the cut. -/
def fineTo (l : LG) (v : Nat → Nat) (j d : Nat) : Prop := ∀ e t, e < d → (l j)[e]? = some t → leqB t.deps v = true
theorem fineTo_next {l : LG} {v : Nat → Nat} {j d : Nat} {t : TX} (h : fineTo l v j d) (ht : (l j)[d]? = some t) (h2 : leqB t.deps v = true) : fineTo l v j (d + 1) := fun e x he hx => by
  by_cases q : e = d
  · subst q
    rw [ht] at hx
    injection hx with hx
    rw [← hx]; exact h2
  · exact h e x (by omega) hx
/-- What the document's Close has in memory. -/
structure ClD (w : World) (u : Nat → S3) (v : Nat → Nat) (wr : World) : Prop where
  vb : VBox wr (w.heap.size + 1) v
  z : VBox wr (w.heap.size + 1 + 1) (fun _ => 0)
  lb : LBox wr w.heap.size u
  gr : Gr w wr
theorem ClD.next {w : World} {u : Nat → S3} {v : Nat → Nat} {a b : World} (h : ClD w u v a) (g : Gr a b) : ClD w u v b := ⟨h.vb.gr g, h.z.gr g, h.lb.gr g, h.gr.trans g⟩
theorem ClD.set {w : World} {u : Nat → S3} {v : Nat → Nat} {a : World} (h : ClD w u v a) {k : Nat} (hk : k < 8) (x : Nat) : ClD w u (upd v k x) (a.setCell ⟨w.heap.size + 1, k, none⟩ (.int .u64 (x : Int))) :=
  ⟨h.vb.set hk x, h.z.far (by simp only []; omega) _, h.lb.far (by simp only []; omega) _, h.gr.setCell (by simp only []; omega) _⟩
/-- The eight cells of a transaction's vector. -/
def DC (w : World) (b o : Nat) (a : Nat → Nat) : Prop := w.cell? ⟨b, o + 3, none⟩ = some (.int .u64 (a 0 : Int)) ∧ w.cell? ⟨b, o + 4, none⟩ = some (.int .u64 (a 1 : Int)) ∧ w.cell? ⟨b, o + 5, none⟩ = some (.int .u64 (a 2 : Int)) ∧ w.cell? ⟨b, o + 6, none⟩ = some (.int .u64 (a 3 : Int)) ∧ w.cell? ⟨b, o + 7, none⟩ = some (.int .u64 (a 4 : Int)) ∧ w.cell? ⟨b, o + 8, none⟩ = some (.int .u64 (a 5 : Int)) ∧ w.cell? ⟨b, o + 9, none⟩ = some (.int .u64 (a 6 : Int)) ∧ w.cell? ⟨b, o + 10, none⟩ = some (.int .u64 (a 7 : Int))
theorem DC.gr {w w' : World} {b o : Nat} {a : Nat → Nat} (h : DC w b o a) (g : Gr w w') : DC w' b o a := by
  obtain ⟨h0, h1, h2, h3, h4, h5, h6, h7⟩ := h
  exact ⟨g.cell h0, g.cell h1, g.cell h2, g.cell h3, g.cell h4, g.cell h5, g.cell h6, g.cell h7⟩
theorem XCell.dc {w : World} {b o : Nat} {t : TX} (h : XCell w b o t) : DC w b o t.deps := by
  obtain ⟨v, -, x0, x1, x2, x3, x4, x5, x6, x7, x8, x9, x10, x11⟩ := h
  exact ⟨x3, x4, x5, x6, x7, x8, x9, x10⟩

set_option maxRecDepth 100000 in
set_option maxHeartbeats 4000000 in
theorem rclose_any (u : Nat → S3) (l : LG) (v : Nat → Nat) (w : World) (h : LV w u l) :
    Calls Try.prog 19 #[.agg (lcells u), .agg (vcells v)] w fun e w' => ∃ c, e = .returned (.agg (vcells c)) ∧ IsClose l v c ∧ Gr w w' := by
  obtain ⟨W, hW, hg, hsz, hL, hV, hZ⟩ := boxesCl u v w
  have HL := Lib.hid hL
  have HV := Lib.hid hV
  have HZ := Lib.hid hZ
  have HG := Lib.hid hg
  have HXW := Lib.hid h
  have HSZ := Lib.hid (fun w1 (g : Gr W w1) => rsize_any u l w1 ((h.gr hg).gr g))
  have HMT := Lib.hid (fun w1 => rmeet_any v (sizeV l) w1)
  obtain ⟨v0, hv0⟩ : ∃ x, x = mt v (sizeV l) := ⟨_, rfl⟩
  rw [← hv0] at HMT
  have HV0 := Lib.hid hv0
  have HLE : Hid (leqB v0 (sizeV l) = true) := Lib.hid (by rw [hv0]; exact mt_le v l)
  clear hL hV hZ hg hsz h hv0
  go_enter Try.func19, Try.ntmps19
  go_upto_region 1 with (fail)
  rw [← hW]
  clear hW
  refine qTail 4 (fun w' => LC w' w.heap.size u ∧ VC w' (w.heap.size + 1) v ∧ Gr W w') (by kernel_rfl) (by kernel_rfl) ⟨HL.out.lc.gr (Gr.refl _).drew, HV.out.vc.gr (Gr.refl _).drew, (Gr.refl _).drew⟩ ?_
  simp only [List.take_succ_cons, List.take_zero, List.drop_succ_cons, List.drop_zero]
  iterate 2
    refine qTake (by kernel_rfl) ?_
    apply Exists.intro
    refine ⟨fun wq hq => ?_, ?_⟩
    · go_light
      obtain ⟨⟨l0, l1, l2, l3, l4, l5, l6, l7⟩, ⟨h0, h1, h2, h3, h4, h5, h6, h7⟩, hg⟩ := hq
      go_simp
      try with_reducible rfl
      done
    try simp only [Act.put, List.setIfInBounds_toArray, List.set_cons_zero, List.set_cons_succ]
  refine qCall (by kernel_rfl) ?_
  apply Exists.intro
  refine ⟨?_, ?_⟩
  · apply Exists.intro
    apply Exists.intro
    refine ⟨fun wq => ?_, fun wq hq => ?_⟩
    · go_light
      go_simp
      exact ⟨rfl, rfl⟩
    · exact (HSZ.out wq hq.2.2).mono fun e w'' ⟨he, hg⟩ => ⟨he, hq.1.gr hg, hq.2.1.gr hg, hq.2.2.trans hg⟩
  try simp only [Act.put, List.setIfInBounds_toArray, List.set_cons_zero, List.set_cons_succ]
  refine qCall (by kernel_rfl) ?_
  apply Exists.intro
  refine ⟨?_, ?_⟩
  · apply Exists.intro
    apply Exists.intro
    refine ⟨fun wq => ?_, fun wq hq => ?_⟩
    · go_light
      go_simp
      exact ⟨rfl, rfl⟩
    · exact (HMT.out wq).mono fun e w'' ⟨he, hg⟩ => ⟨he, hq.1.gr hg, hq.2.1.gr hg, hq.2.2.trans hg⟩
  try simp only [Act.put, List.setIfInBounds_toArray, List.set_cons_zero, List.set_cons_succ]
  refine qNil ?_
  intro w3 hC
  have HG3 := Lib.hid hC.2.2
  obtain ⟨y0, y1, y2, y3, y4, y5, y6, y7⟩ := hC.2.1
  obtain ⟨f0, f1, f2, f3, f4, f5, f6, f7⟩ := (HV.out.gr HG3.out).fz
  clear hC
  go_upto_region 2 with (fail)
  clear y0 y1 y2 y3 y4 y5 y6 y7 f0 f1 f2 f3 f4 f5 f6 f7
  change Code.wp Try.prog _ _ _ (putCells w3 (w.heap.size + 1) 0 (vcells v0).toList)
  obtain ⟨w4, hw4, hc4⟩ : ∃ x, x = putCells w3 (w.heap.size + 1) 0 (vcells v0).toList ∧ ClD w u v0 x := by
    obtain ⟨hk, hb⟩ := putV8 (HV.out.gr HG3.out) v0
    exact ⟨_, rfl, ⟨hb, ⟨by rw [hk _ (by omega)]; exact (HZ.out.gr HG3.out).box⟩, ⟨by rw [hk _ (by omega)]; exact (HL.out.gr HG3.out).box⟩, Gr.putCells (Nat.le_succ _) _ _ (HG.out.trans HG3.out)⟩⟩
  rw [← hw4]
  have HC4 := Lib.hid hc4
  clear hw4 hc4
  go_wp2_with fail
  go_loopg [5] (2 * sumV v0 + 2) (fun kx s wr => ∃ (bl : Bool) (vv : Nat → Nat), s = .bool bl ∧ 2 * sumV vv + (if bl then 1 else 0) < kx ∧ Hid (ClD w u vv wr ∧ ClI l v0 vv ∧ (bl = false → ∀ j, j < 8 → fineTo l vv j (vv j))))
  case atStart => exact ⟨true, v0, rfl, by simp, Lib.hid ⟨HC4.out, ⟨lq_refl _, fun _ _ h => h⟩, fun e => by cases e⟩⟩
  case round =>
    obtain ⟨bl, vv, rfl, hms, hst⟩ := hrel
    rename World => wo
    rcases bl with _ | _
    · obtain ⟨hcs, hci, hfn⟩ := hst.out
      have HIS : Hid (IsClose l v vv) := Lib.hid ⟨⟨lq_trans hci.le HLE.out, fun i k t hi hk ht => hfn rfl i hi k t hk ht⟩, lq_trans hci.le (by rw [HV0.out]; exact lq_of fun _ _ => Nat.min_le_left _ _), fun x hx hxv => hci.up x hx (by rw [HV0.out]; exact lq_of fun i hi => by have h1 := lq hxv hi; have h2 : x i ≤ sizeV l i := lq hx.1 hi; show _ ≤ min _ _; omega)⟩
      obtain ⟨h0, h1, h2, h3, h4, h5, h6, h7⟩ := hcs.vb.all
      obtain ⟨s0, s1, s2, s3, s4, s5, s6, s7⟩ := hcs.z.zero
      obtain ⟨f0, f1, f2, f3, f4, f5, f6, f7⟩ := hcs.z.fz
      have HGF := Lib.hid hcs.gr
      clear hcs hci hfn hst
      go_wp2_with fail
      refine bodyPost_ret (v := .agg (vcells vv)) (by simp [results, Try.results19, go_sem, *]) rfl ⟨vv, rfl, HIS.out, ?_⟩
      show Gr w (putCells wo (w.heap.size + 1 + 1) 0 (vcells vv).toList)
      exact Gr.putCells (by omega) _ _ HGF.out
    · simp only [if_true] at hms
      go_wp2_with fail
      go_loopw [5, 6] (fun s i wr => ∃ (k : Nat) (bl : Bool) (v2 : Nat → Nat), k ≤ 8 ∧ i = .int .i64 k ∧ s = .bool bl ∧ sumV v2 + (if bl then 1 else 0) ≤ sumV vv ∧ Hid (ClD w u v2 wr ∧ ClI l v0 v2 ∧ (bl = false → ∀ j, j < k → fineTo l v2 j (v2 j)))) (fun _ i _ => 8 - (intOf i).toNat)
      case atStart => exact ⟨0, false, vv, by decide, rfl, rfl, by simp, Lib.hid ⟨hst.out.1, hst.out.2.1, fun _ j hj => absurd hj (Nat.not_lt_zero _)⟩⟩
      case round =>
        obtain ⟨k, bl, v2, hk, rfl, rfl, hsum, hst2⟩ := hrel
        rename World => wi
        by_cases hlt : k < 8
        · have hk0 : (0 : Int) ≤ (k : Int) := Int.natCast_nonneg _
          have hk8 : (k : Int) < 8 := by omega
          go_wp2_with fail
          go_loopg [5, 7] (v2 k + 1) (fun kx s i wr => ∃ (bl3 : Bool) (v3 : Nat → Nat) (d : Nat), s = .bool bl3 ∧ i = .int .u64 d ∧ v3 k - d < kx ∧ sumV v3 + (if bl3 then 1 else 0) ≤ sumV vv ∧ Hid (ClD w u v3 wr ∧ ClI l v0 v3 ∧ (bl3 = false → d ≤ v3 k ∧ fineTo l v3 k d ∧ ∀ j, j < k → fineTo l v3 j (v3 j))))
          case atStart => exact ⟨bl, v2, 0, rfl, rfl, by omega, hsum, Lib.hid ⟨hst2.out.1, hst2.out.2.1, fun e => ⟨Nat.zero_le _, fun _ _ he => absurd he (Nat.not_lt_zero _), hst2.out.2.2 e⟩⟩⟩
          case round =>
            obtain ⟨bl3, v3, d, rfl, rfl, hm3, hsum3, hst3⟩ := hrel
            rename World => wr
            have hle3 : v3 k ≤ (l k).length := Nat.le_trans (lq hst3.out.2.1.le hlt) (lq HLE.out hlt)
            have hkv := hst3.out.1.vb.at hlt
            by_cases hdv : d < v3 k
            · have hdl : d < (l k).length := by omega
              have hl8 := HXW.out.le hlt
              obtain ⟨b, off, ha, hx⟩ := (HXW.out.gr hst3.out.1.gr).cell hlt hdl
              have hdc := hx.dc
              obtain ⟨t, ht⟩ : ∃ t, t = (l k)[d] := ⟨_, rfl⟩
              rw [← ht] at hdc
              have HT := Lib.hid (show (l k)[d]? = some t by rw [ht]; exact List.getElem?_eq_getElem hdl)
              have hlk := hst3.out.1.lb.at hlt
              obtain ⟨n, hn⟩ : ∃ n, n = (u k).n := ⟨_, rfl⟩
              obtain ⟨c, hc⟩ : ∃ c, c = (u k).c := ⟨_, rfl⟩
              rw [ha, ← hn, ← hc] at hlk
              have hnl : n = (l k).length := by rw [hn]; exact HXW.out.len hlt
              have hdn : (d : Int) < (n : Int) := by omega
              have hd0 : (0 : Int) ≤ (d : Int) := by omega
              obtain ⟨m, hm⟩ : ∃ m, m = v3 k := ⟨_, rfl⟩
              rw [← hm] at hkv hdv hle3
              have hdm : (d : Int) < (m : Int) := by omega
              obtain ⟨a, hA⟩ : ∃ a, a = t.deps := ⟨_, rfl⟩
              rw [← hA] at hdc
              obtain ⟨r, hr⟩ : ∃ r, r = leqB a v3 := ⟨_, rfl⟩
              have HLQ := Lib.hid (fun w1 => rleq_any a v3 w1)
              rw [← hr] at HLQ
              have HRR : Hid (leqB t.deps v3 = r) := Lib.hid (by rw [hr, hA])
              have HWR := Lib.hid (hst3.out.1.vb.vc)
              have HDC := Lib.hid hdc
              have HLK := Lib.hid hlk
              have HM := Lib.hid hm
              have HW1 : Hid (IntKind.u64.wrap ((d : Int) + 1) = ((d + 1 : Nat) : Int)) := Lib.hid (by simp [IntKind.wrap, IntKind.bits, IntKind.signed]; omega)
              have HDM := Lib.hid (show d < v3 k by rw [← hm]; exact hdv)
              have HDL := Lib.hid hdl
              clear hx hdc ht hlk hn hc hnl hm hA hr ha hdv hle3 hl8 hdl
              go_upto_region 11 with (fail)
              refine qRegion (fun w' => VC w' (w.heap.size + 1) v3 ∧ w'.cell? ⟨w.heap.size, k, none⟩ = some (.slice (some ⟨b, off, none⟩) n c) ∧ DC w' b (off + d * 12) a ∧ Gr wr w') (by kernel_rfl) (by kernel_rfl) ⟨HWR.out.gr (Gr.refl _).drew, (Gr.refl _).drew.cell HLK.out, HDC.out.gr (Gr.refl _).drew, (Gr.refl _).drew⟩ ?_
              iterate 8
                refine qTake (by kernel_rfl) ?_
                apply Exists.intro
                refine ⟨fun wq hq => ?_, ?_⟩
                · go_light
                  obtain ⟨⟨e0, e1, e2, e3, e4, e5, e6, e7⟩, e8, ⟨q0, q1, q2, q3, q4, q5, q6, q7⟩, -⟩ := hq
                  go_simp
                  try with_reducible rfl
                  done
                try simp only [Act.put, List.setIfInBounds_toArray, List.set_cons_zero, List.set_cons_succ]
              refine qCall (by kernel_rfl) ?_
              apply Exists.intro
              refine ⟨?_, ?_⟩
              · apply Exists.intro
                apply Exists.intro
                refine ⟨fun wq => ?_, fun wq hq => ?_⟩
                · go_light
                  go_simp
                  exact ⟨rfl, rfl⟩
                · exact (HLQ.out wq).mono fun e w'' ⟨he, hg⟩ => ⟨he, hq.1.gr hg, hg.cell hq.2.1, hq.2.2.1.gr hg, hq.2.2.2.trans hg⟩
              try simp only [Act.put, List.setIfInBounds_toArray, List.set_cons_zero, List.set_cons_succ]
              iterate 1
                refine qTake (by kernel_rfl) ?_
                apply Exists.intro
                refine ⟨fun wq hq => ?_, ?_⟩
                · go_light
                  obtain ⟨⟨e0, e1, e2, e3, e4, e5, e6, e7⟩, e8, ⟨q0, q1, q2, q3, q4, q5, q6, q7⟩, -⟩ := hq
                  go_simp
                  try with_reducible rfl
                  done
                try simp only [Act.put, List.setIfInBounds_toArray, List.set_cons_zero, List.set_cons_succ]
              refine qNil ?_
              rintro w7 ⟨-, -, -, hg7⟩
              have HST7 := Lib.hid (hst3.out.1.next hg7)
              clear hg7 hkv
              rcases r with _ | _
              · have hfz : w7.frozen? ⟨w.heap.size + 1, k, none⟩ = false := unfrozen_of_block HST7.out.vb.box k
                have hk7 := HST7.out.vb.at hlt
                have HST8 : Hid (ClD w u (upd v3 k d) (w7.setCell ⟨w.heap.size + 1, k, none⟩ (.int .u64 (d : Int))) ∧ ClI l v0 (upd v3 k d) ∧ (true = false → d + 1 ≤ upd v3 k d k ∧ fineTo l (upd v3 k d) k (d + 1) ∧ ∀ j, j < k → fineTo l (upd v3 k d) j (upd v3 k d j))) := Lib.hid ⟨HST7.out.set hlt d, ⟨lq_of fun j hj => by
                    have h1 := lq hst3.out.2.1.le hj
                    unfold upd
                    by_cases q : j = k
                    · subst q; rw [if_pos rfl]; have := HDM.out; omega
                    · rw [if_neg q]; exact h1, close_cut hlt HT.out hst3.out.2.1.up HRR.out⟩, fun e => by cases e⟩
                have hsum4 : sumV (upd v3 k d) + (if true then 1 else 0) ≤ sumV vv := by
                  have h1 := sumTo_upd (v := v3) (k := k) (x := d) (n := 8) hlt
                  have h2 := HDM.out
                  simp only [if_true]
                  unfold sumV at hsum3 ⊢
                  omega
                go_wp2_with fail
                go_roundg (v3 k - d)
                case measure => exact hm3
                case rel => exact ⟨true, upd v3 k d, d + 1, rfl, by rw [HW1.out], by have := HDM.out; unfold upd; rw [if_pos rfl]; omega, hsum4, HST8⟩
              · have HST4 : Hid (ClD w u v3 w7 ∧ ClI l v0 v3 ∧ (bl3 = false → d + 1 ≤ v3 k ∧ fineTo l v3 k (d + 1) ∧ ∀ j, j < k → fineTo l v3 j (v3 j))) := Lib.hid ⟨HST7.out, hst3.out.2.1, fun e => ⟨HDM.out, fineTo_next (hst3.out.2.2 e).2.1 HT.out HRR.out, (hst3.out.2.2 e).2.2⟩⟩
                go_wp2_with fail
                go_roundg (v3 k - d)
                case measure => exact hm3
                case rel => exact ⟨bl3, v3, d + 1, rfl, by rw [HW1.out], by have := HDM.out; omega, hsum3, HST4⟩
            · obtain ⟨m, hm⟩ : ∃ m, m = v3 k := ⟨_, rfl⟩
              rw [← hm] at hkv hdv
              have HST4 : Hid (ClD w u v3 wr ∧ ClI l v0 v3 ∧ (bl3 = false → ∀ j, j < k + 1 → fineTo l v3 j (v3 j))) := Lib.hid ⟨hst3.out.1, hst3.out.2.1, fun e j hj => by
                obtain ⟨h1, h2, h3⟩ := hst3.out.2.2 e
                by_cases q : j = k
                · rw [q, show v3 k = d by omega]; exact h2
                · exact h3 j (by omega)⟩
              clear hm
              go_wp2_with fail
              go_roundw
              case measure => simp [intOf]; omega
              case rel => exact ⟨k + 1, bl3, v3, by omega, by go_num, rfl, hsum3, HST4⟩
        · obtain rfl : k = 8 := by omega
          go_wp2_with fail
          go_roundg (2 * sumV v2 + (if bl then 1 else 0) + 1)
          case measure => cases bl <;> simp at hsum ⊢ <;> omega
          case rel => exact ⟨bl, v2, rfl, Nat.lt_succ_self _, hst2⟩
theorem rclose_det (u : Nat → S3) (l : LG) (v : Nat → Nat) (w : World) (h : LV w u l) :
    Calls Try.prog 19 #[.agg (lcells u), .agg (vcells v)] w fun e w' => e = .returned (.agg (vcells (closeV l v))) ∧ Gr w w' :=
  (rclose_any u l v w h).mono fun e w' ⟨c, he, hc, hg⟩ => ⟨by rw [he, close_eq hc], hg⟩
end Go.Proofs.Ytaldgjcbbjjceaa
