/- Walks: the program's Missing. -/
import Derived.Test.YtlgljanofppleaaSdK
import Derived.Test.YtlgljanofppleaaSdF
import Derived.Test.YtlgljanofppleaaCutU
import Derived.Test.YtlgljanofppleaaCutO
namespace Go.Proofs.Ytlgljanofppleaa
open Go.RowKit Go.Joins
set_option linter.unusedSimpArgs false
set_option linter.unusedVariables false

/-- The value reads as stands of these transactions, in a row that is younger than W. -/
def StP (W : World) (T : List (TX × Nat × Nat)) (w : World) (y : Value) : Prop := ∃ w0 D, Gr W w0 ∧ SdR w0 w0 T y D w
theorem StP.gr {W : World} {T : List (TX × Nat × Nat)} {w w' : World} {y : Value} (h : StP W T w y) (g : Gr w w') : StP W T w' y := by
  obtain ⟨w0, D, h1, h2⟩ := h
  exact ⟨w0, D, h1, h2.next g⟩
/-- What the region's operations leave. -/
def IMp (W : World) (u : Nat → S3) (sl : Nat → Nat) (fv : Value) (T T' : List (TX × Nat × Nat)) (k : Nat) (w : World) (y : Value) : Prop :=
  match k with
  | 0 => y = .agg (lcells u)
  | 1 => y = .agg (lcells u)
  | 2 => y = .agg (vcells sl)
  | 3 => StP W T w y
  | 4 => y = fv
  | 5 => StP W T' w y
  | 6 => StP W T' w y
  | _ => True
theorem IMp.gr {W : World} {u : Nat → S3} {sl : Nat → Nat} {fv : Value} {T T' : List (TX × Nat × Nat)} {w w' : World} {y : Value} (g : Gr w w') : ∀ {k : Nat}, IMp W u sl fv T T' k w y → IMp W u sl fv T T' k w' y
  | 0, h => h
  | 1, h => h
  | 2, h => h
  | 3, h => StP.gr h g
  | 4, h => h
  | 5, h => StP.gr h g
  | 6, h => StP.gr h g
  | _ + 7, _ => trivial
structure IM (W : World) (u : Nat → S3) (sl : Nat → Nat) (fv : Value) (T T' : List (TX × Nat × Nat)) (vals : Vals) (w : World) : Prop where
  gr : Gr W w
  ok : ∀ j y, vals j = some y → (j = 3 → vals 5 = none) → IMp W u sl fv T T' j w y
  o6 : vals 5 = none → vals 6 = none
theorem IM.up {W : World} {u : Nat → S3} {sl : Nat → Nat} {fv : Value} {T T' : List (TX × Nat × Nat)} {vals : Vals} {w w' : World} (h : IM W u sl fv T T' vals w) {k : Nat} {y : Value} (hn : vals k = none) (hs : k ≠ 5 → Gr w w') (hg : Gr W w') (p : IMp W u sl fv T T' k w' y) (q : k = 6 → vals 5 ≠ none) :
    IM W u sl fv T T' (vals.up k y) w' := by
  refine ⟨hg, fun j x hx h3 => ?_, fun h5 => ?_⟩
  · by_cases e : j = k
    · subst e
      rw [Vals.up_at] at hx
      injection hx with hx
      rw [← hx]
      exact p
    · rw [Vals.up_ne vals y e] at hx
      have h3' : j = 3 → vals 5 = none := fun e3 => by
        have h4 := h3 e3
        by_cases e5 : 5 = k
        · rw [← e5, Vals.up_at] at h4; cases h4
        · rw [Vals.up_ne vals y e5] at h4; exact h4
      have h6 := h.ok j x hx h3'
      by_cases e5 : k = 5
      · subst e5
        have hj3 : j ≠ 3 := fun e3 => by have h4 := h3 e3; rw [Vals.up_at] at h4; cases h4
        have hj6 : j ≠ 6 := fun e6 => by rw [e6, h.o6 hn] at hx; cases hx
        match j, h6, hj3, hj6, e with
        | 0, h6, _, _, _ => exact h6
        | 1, h6, _, _, _ => exact h6
        | 2, h6, _, _, _ => exact h6
        | 3, _, c, _, _ => exact absurd rfl c
        | 4, h6, _, _, _ => exact h6
        | 5, _, _, _, c => exact absurd rfl c
        | 6, _, _, c, _ => exact absurd rfl c
        | _ + 7, _, _, _, _ => exact trivial
      · exact h6.gr (hs e5)
  · by_cases e5 : 5 = k
    · rw [← e5, Vals.up_at] at h5; cases h5
    · rw [Vals.up_ne vals y e5] at h5
      have h6 := h.o6 h5
      by_cases e6 : 6 = k
      · exact absurd h5 (q e6.symm)
      · rw [Vals.up_ne vals y e6]; exact h6
/-- What the cut doesn't count. -/
def notH (v : Nat → Nat) (p : TX × Nat × Nat) : Bool := !hasB v p.1.origin p.1.seq
theorem ssh_filter (cv : Nat → Nat) (D : List ST) : ssh (D.filter fun c => !hsD cv c) = (ssh D).filter (notH cv) := by
  unfold ssh
  rw [List.filter_map]
  rfl
/-- DeleteFunc leaves the stands that the cut doesn't count. -/
theorem delSt_any (W : World) (T : List (TX × Nat × Nat)) (PV : Nat) (cv : Nat → Nat) (w : World) (y : Value) (h : StP W T w y) (hv : VC w PV cv) (hp : PV < W.heap.size) (hg : Gr W w) :
    Calls Try.prog 49 #[y, .func (.func 50) #[] #[.pointer (some ⟨PV, 0, none⟩)]] w fun e w' => ∃ y', e = .returned y' ∧ StP W (T.filter (notH cv)) w' y' ∧ Gr W w' := by
  obtain ⟨w0, D, h1, h2⟩ := h
  have hsz := h1.size
  refine (delHas_any y D w0.heap.size PV cv w h2.own ⟨hv, fun d hd => ((h2.xs d hd).hc).gr h2.gr, by omega, h2.lt⟩).mono fun e w' ⟨v', he, ho, _, kp⟩ => ?_
  have hg' : Gr w0 w' := gr_of_grown h2.gr h2.own kp h2.gr.size
  exact ⟨v', he, ⟨w0, _, h1, ho, by rw [ssh_filter, h2.sh], fun d hd => h2.xs d ((List.mem_filter.1 hd).1), fun d hd => h2.lt d ((List.mem_filter.1 hd).1), hg'⟩, h1.trans hg'⟩
theorem SDV.take {w : World} {A : Option Addr} {n c k : Nat} {D : List ST} (h : SDV w (.slice A n c) D) (hk : k ≤ n) : SDV w (.slice A k c) (D.take k) := by
  obtain ⟨A', c', hv, h1, h2, h3⟩ := h
  injection hv with e1 e2 e3
  subst e1 e2 e3
  have hl : (D.take k).length = k := by rw [List.length_take]; omega
  refine ⟨A, c, by rw [hl], by omega, h2, fun j hj => ?_⟩
  obtain ⟨b, off, ha, hc⟩ := h3 j (by omega)
  exact ⟨b, off, ha, by rw [List.getElem_take]; exact hc⟩
/-- What Missing tells of all, sorted. -/
def MisQ (l : LG) (v : Nat → Nat) (Q : List (TX × Nat × Nat)) : Prop := Q.Perm ((sAll l (mt (sizeV l) (sizeV l)) 8).filter (notH v)) ∧ SortedP Q
set_option maxRecDepth 100000 in
set_option maxHeartbeats 4000000 in
theorem missing9_any (u : Nat → S3) (l : LG) (v : Nat → Nat) (most : Int) (w : World) (h : LV w u l) (hf : FitC l) (hlen : ∀ i, i < 8 → (l i).length ≤ 1024) (hm : most ≤ 9223372036854775807 ∧ -9223372036854775808 ≤ most) :
    Calls Try.prog 29 #[.agg (lcells u), .agg (vcells v), .int .i64 most] w fun e w' => ∃ s Q, e = .returned s ∧ MisQ l v Q ∧ XN w' w.heap.size s ((Q.take most.toNat).map (·.1)) ∧ Gr w w' := by
  obtain ⟨W, hW, hg, hsz, hL, hV⟩ := boxesLV u v w
  have HG := Lib.hid hg
  have HL := Lib.hid hL
  have HV := Lib.hid hV
  have HSW := Lib.hid hsz
  have HSZ := Lib.hid (fun w1 (g : Gr W w1) => size_any u l w1 ((h.gr hg).gr g))
  have HST := Lib.hid (fun w1 (g : Gr W w1) => stands_any u l (sizeV l) w1 ((h.gr hg).gr g) hlen)
  have HFL := Lib.hid hf
  have HTL := Lib.hid (show (sAll l (mt (sizeV l) (sizeV l)) 8).length ≤ 8192 from sAll_len l _ (fun i hi => Nat.le_trans (Nat.min_le_right _ _) (hlen i hi)) 8 (Nat.le_refl _))
  obtain ⟨T, hT⟩ : ∃ T, T = sAll l (mt (sizeV l) (sizeV l)) 8 := ⟨_, rfl⟩
  rw [← hT] at HST HTL
  have HT := Lib.hid hT
  obtain ⟨sl, hsl⟩ : ∃ x, x = sizeV l := ⟨_, rfl⟩
  rw [← hsl] at HST HSZ
  clear hL hV hg hsz h hf hlen hT hsl
  go_enter Try.func29, Try.ntmps29
  go_upto_region 1 with (fail)
  rw [← hW]
  clear hW
  refine wp_region_noPanic ?_
  refine iRegionA (IM W u sl (.func (.func 50) #[] #[.pointer (some ⟨w.heap.size + 1, 0, none⟩)]) T (T.filter (notH v))) (by kernel_rfl) (by kernel_rfl) ⟨(Gr.refl _).drew, fun _ _ h => (by cases h), fun _ => rfl⟩ ?_ ?_
  · intro i o ho vals wc A hI hn hdep hOld hNew
    have hi : i < 7 := (List.getElem?_eq_some_iff.1 ho).1
    obtain ⟨l0, l1, l2, l3, l4, l5, l6, l7⟩ := (HL.out.gr hI.gr).all
    have eo3 : A.tmps[3]?.getD undef = .pointer (some ⟨w.heap.size, 0, none⟩) := slotE (hOld 3 (by kernel_rfl))
    have eo4 : A.tmps[4]?.getD undef = .pointer (some ⟨w.heap.size + 1, 0, none⟩) := slotE (hOld 4 (by kernel_rfl))
    obtain rfl | rfl | rfl | rfl | rfl | rfl | rfl : i = 0 ∨ i = 1 ∨ i = 2 ∨ i = 3 ∨ i = 4 ∨ i = 5 ∨ i = 6 := by omega
    · obtain rfl := Option.some.inj (show some _ = some o from ho)
      refine aVal rfl rfl (v := .agg (lcells u)) (w' := wc) ?_ ⟨_, rfl, hI.up hn (fun _ => Gr.refl _) hI.gr (show IMp W u sl _ T _ 0 wc _ from rfl) (fun e => by cases e)⟩
      go_simp
    · obtain rfl := Option.some.inj (show some _ = some o from ho)
      refine aVal rfl rfl (v := .agg (lcells u)) (w' := wc) ?_ ⟨_, rfl, hI.up hn (fun _ => Gr.refl _) hI.gr (show IMp W u sl _ T _ 1 wc _ from rfl) (fun e => by cases e)⟩
      go_simp
    · obtain rfl := Option.some.inj (show some _ = some o from ho)
      obtain ⟨y1, hy1⟩ := hdep ⟨1, .data⟩ (by simp) rfl
      have s1 := slotE (hNew 1 9 _ y1 rfl rfl (by kernel_rfl) hy1)
      have e1 : y1 = .agg (lcells u) := hI.ok 1 y1 hy1 (fun e => by cases e)
      rw [e1] at s1
      refine aCall rfl rfl (w1 := wc) ?_ ((HSZ.out wc hI.gr).mono fun e w' ⟨he, hg⟩ => ⟨_, he, _, rfl, hI.up hn (fun _ => hg) (hI.gr.trans hg) (show IMp W u sl _ T _ 2 w' _ from rfl) (fun e => by cases e)⟩)
      go_simp
    · obtain rfl := Option.some.inj (show some _ = some o from ho)
      obtain ⟨y0, hy0⟩ := hdep ⟨0, .data⟩ (by simp) rfl
      have s0 := slotE (hNew 0 8 _ y0 rfl rfl (by kernel_rfl) hy0)
      have e0 : y0 = .agg (lcells u) := hI.ok 0 y0 hy0 (fun e => by cases e)
      rw [e0] at s0
      obtain ⟨y2, hy2⟩ := hdep ⟨2, .data⟩ (by simp) rfl
      have s2 := slotE (hNew 2 10 _ y2 rfl rfl (by kernel_rfl) hy2)
      have e2 : y2 = .agg (vcells sl) := hI.ok 2 y2 hy2 (fun e => by cases e)
      rw [e2] at s2
      refine aCall rfl rfl (w1 := wc) ?_ ((HST.out wc hI.gr).mono fun e w' ⟨s, D, he, hd⟩ => ⟨_, he, _, rfl, hI.up hn (fun _ => hd.gr) (hI.gr.trans hd.gr) (show IMp W u sl _ T _ 3 w' _ from ⟨wc, D, hI.gr, hd⟩) (fun e => by cases e)⟩)
      go_simp
    · obtain rfl := Option.some.inj (show some _ = some o from ho)
      refine aVal rfl rfl (v := .func (.func 50) #[] #[.pointer (some ⟨w.heap.size + 1, 0, none⟩)]) (w' := wc) ?_ ⟨_, rfl, hI.up hn (fun _ => Gr.refl _) hI.gr (show IMp W u sl _ T _ 4 wc _ from rfl) (fun e => by cases e)⟩
      have hmf : ∀ (fn : Fn) (first cap : Array Value) (w : World), (Instr.makeFunc fn first cap).run Try.prog w = .ok (.func fn first cap) w := fun _ _ _ _ => rfl
      go_simp
    · obtain rfl := Option.some.inj (show some _ = some o from ho)
      obtain ⟨y3, hy3⟩ := hdep ⟨3, .data⟩ (by simp) rfl
      have s3 := slotE (hNew 3 11 _ y3 rfl rfl (by kernel_rfl) hy3)
      have e3 : StP W T wc y3 := hI.ok 3 y3 hy3 (fun _ => hn)
      obtain ⟨y4, hy4⟩ := hdep ⟨4, .data⟩ (by simp) rfl
      have s4 := slotE (hNew 4 12 _ y4 rfl rfl (by kernel_rfl) hy4)
      have e4 : y4 = _ := hI.ok 4 y4 hy4 (fun e => by cases e)
      rw [e4] at s4
      refine aCall rfl rfl (w1 := wc) ?_ ((delSt_any W T (w.heap.size + 1) v wc y3 e3 (HV.out.gr hI.gr).vc (by rw [HSW.out]; omega) hI.gr).mono fun e w' ⟨s, he, hd, hg⟩ => ⟨_, he, _, rfl, hI.up hn (fun c => absurd rfl c) hg (show IMp W u sl _ T _ 5 w' _ from hd) (fun e => by cases e)⟩)
      go_simp
    · obtain rfl := Option.some.inj (show some _ = some o from ho)
      obtain ⟨y5, hy5⟩ := hdep ⟨5, .data⟩ (by simp) rfl
      have s5 := slotE (hNew 5 13 _ y5 rfl rfl (by kernel_rfl) hy5)
      have e5 : StP W (T.filter (notH v)) wc y5 := hI.ok 5 y5 hy5 (fun e => by cases e)
      refine aVal rfl rfl (v := y5) (w' := wc) ?_ ⟨_, rfl, hI.up hn (fun _ => Gr.refl _) hI.gr (show IMp W u sl _ T _ 6 wc _ from e5) (fun _ e => by rw [e] at hy5; cases hy5)⟩
      go_simp
  · intro vals w2 hall hI
    refine NoPanic.normal ?_
    obtain ⟨y0, h0⟩ := hall 0 (by decide)
    obtain ⟨y1, h1⟩ := hall 1 (by decide)
    obtain ⟨y2, h2⟩ := hall 2 (by decide)
    obtain ⟨y3, h3⟩ := hall 3 (by decide)
    obtain ⟨y4, h4⟩ := hall 4 (by decide)
    obtain ⟨y5, h5⟩ := hall 5 (by decide)
    obtain ⟨y6, h6⟩ := hall 6 (by decide)
    have hst : StP W (T.filter (notH v)) w2 y6 := hI.ok 6 y6 h6 (fun e => by cases e)
    simp only [putAll, putV, h0, h1, h2, h3, h4, h5, h6]
    clear hI hall h0 h1 h2 h3 h4 h5 h6
    obtain ⟨w0, D, hw0, hd⟩ := hst
    obtain ⟨As, c, rfl⟩ := slice_sd hd.own
    obtain ⟨n, hn⟩ : ∃ n, n = D.length := ⟨_, rfl⟩
    have hDl : D.length ≤ 8192 := by
      have e1 : D.length = (ssh D).length := (List.length_map _).symm
      rw [e1, hd.sh]
      exact Nat.le_trans (List.length_filter_le _ _) HTL.out
    have HSO := Lib.hid (sort_any D As n c w0 w2 hd.gr (by rw [hn]; exact hd.own) hn hd.xs hd.lt (by omega))
    have HD := Lib.hid hd
    have HDL := Lib.hid hDl
    have HW0 := Lib.hid (HG.out.trans hw0)
    have HN := Lib.hid hn
    have hn8 : n ≤ 8192 := by rw [hn]; exact hDl
    rw [← hn]
    clear hd hn hDl hw0
    simp only [Act.put, List.setIfInBounds_toArray, List.set_cons_zero, List.set_cons_succ]
    go_wp2_with fail
    refine HSO.out.mono ?_
    rintro e w3 ⟨rfl, D', hsd, hpm, hss, g3⟩
    have HFS : Hid (FitS D') := Lib.hid fun d hd => by
      have h1 : d ∈ D := hpm.mem_iff.1 hd
      have h2 : (d.t, d.m, d.k) ∈ ssh D := List.mem_map_of_mem h1
      rw [HD.out.sh] at h2
      have h3 := (List.mem_filter.1 h2).1
      rw [HT.out] at h3
      obtain ⟨m, k, t, hm, _, hl, e⟩ := sAll_mem.1 h3
      injection e with e1 _
      show d.t.ops.length * 48 ≤ _ ∧ ∀ o ∈ d.t.ops, _
      rw [e1]
      exact HFL.out.tx m t hm (List.mem_of_getElem? hl)
    have HQ : Hid (MisQ l v (D'.map shp)) := Lib.hid ⟨by have := hpm.map shp; rw [show D.map shp = T.filter (notH v) from HD.out.sh, HT.out] at this; exact this, hss⟩
    have hDn : D'.length = n := by rw [hpm.length_eq]; exact HN.out.symm
    obtain ⟨k, hk⟩ : ∃ k, k = min n most.toNat := ⟨_, rfl⟩
    have hkn : k ≤ n := by omega
    have HCO := Lib.hid (copies_any (.slice As k c) (D'.take k) w3 (hsd.take hkn) (fun d hd => (HD.out.xs d (hpm.mem_iff.1 (List.mem_of_mem_take hd))).gr g3) (fun d hd => HFS.out d (List.mem_of_mem_take hd)) (by rw [List.length_take]; omega))
    have HTM : Hid ((D'.take k).map (·.t) = ((D'.map shp).take most.toNat).map (·.1)) := Lib.hid (by
      rw [← List.map_take, List.map_map]
      have e : D'.take k = D'.take most.toNat := by
        rw [hk, ← hDn]
        exact (List.take_eq_take_iff.2 (by omega))
      rw [e]
      rfl)
    have HG3 := Lib.hid (HW0.out.trans g3)
    have hcn : n ≤ c := by
      obtain ⟨A', c', hv', hc', -, -⟩ := hsd
      injection hv' with e1 e2 e3
      omega
    have hst := slice_to_g 61 3 elemSt9 sizeSt9 n c k (by omega) As
    clear hsd hpm hss g3 hDn
    go_wp2_with fail
    rw [show (min (n : Int) (max most 0)).toNat = k by omega]
    refine HCO.out.mono ?_
    rintro e w4 ⟨s4, rfl, hx4, g4⟩
    have HE : Hid (XN w4 w.heap.size s4 (((D'.map shp).take most.toNat).map (·.1)) ∧ Gr w w4) := Lib.hid ⟨by rw [← HTM.out]; exact hx4.le HG3.out.size, HG3.out.trans g4⟩
    clear hx4 g4
    go_wp2_with fail
    go_ret
    exact ⟨_, _, rfl, HQ.out, HE.out⟩
end Go.Proofs.Ytlgljanofppleaa
