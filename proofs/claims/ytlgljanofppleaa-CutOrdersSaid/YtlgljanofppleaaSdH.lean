/- The law CutOrders. -/
import Derived.Test.YtlgljanofppleaaSdG
import Derived.Test.YtlgljanofppleaaCutO
import Derived.Test.YtlgljanofppleaaCutS
import Derived.Test.YtlgljanofppleaaCutZA
namespace Go.Proofs.Ytlgljanofppleaa
open Go.RowKit Go.Joins
set_option linter.unusedSimpArgs false
set_option linter.unusedVariables false

theorem equal_ww (f : Nat → Nat) (w : World) : (Op.equalIn 10000 34 (.agg (vcells f)) (.agg (vcells f))).run Try.prog w = .ok true w := by
  rw [equal_v, eqB_self]
/-- What the law's rounds leave: the cut's box, the count's, the row. -/
structure OlS (w : World) (P5 P6 B : Nat) (cc : Nat → Nat) (s : Value) (Q : List (TX × Nat × Nat)) (i : Nat) (wr : World) : Prop where
  c : VBox wr P5 cc
  d : VBox wr P6 (cntQ Q i)
  x : XN wr B s (Q.map (·.1))
  gr : Gr w wr
theorem OlS.next {w : World} {P5 P6 B : Nat} {cc : Nat → Nat} {s : Value} {Q : List (TX × Nat × Nat)} {i : Nat} {wr w' : World} (h : OlS w P5 P6 B cc s Q i wr) (g : Gr wr w') : OlS w P5 P6 B cc s Q i w' :=
  ⟨h.c.gr g, h.d.gr g, h.x.keeps (Keeps.of_gr g), h.gr.trans g⟩
theorem OlS.more {w : World} {P5 P6 B : Nat} {cc : Nat → Nat} {s : Value} {Q : List (TX × Nat × Nat)} {i m k : Nat} {t : TX} {wr : World} (h : OlS w P5 P6 B cc s Q i wr) (h56 : P5 ≠ P6) (hP : w.heap.size ≤ P6) (hq : Q[i]? = some (t, m, k)) (hm : m < 8) (hk : k = cntQ Q i m) :
    OlS w P5 P6 B cc s Q (i + 1) (wr.setCell ⟨P6, m, none⟩ (.int .u64 ((k + 1 : Nat) : Int))) := by
  refine ⟨h.c.far (by simp only []; exact fun e => h56 e.symm) _, ?_, h.x.keeps (setCell_keeps h.d.box (by decide) _ _), h.gr.setCell hP _⟩
  rw [cntQ_next hq]
  subst hk
  exact h.d.set hm _

set_option maxRecDepth 100000 in
set_option maxHeartbeats 4000000 in
theorem orders9_law (u : Nat → S3) (l : LG) (v : Nat → Nat) (w : World) (h : LV w u l) (hf : FitL l) :
    Calls Try.prog 5 #[.agg (lcells u), .agg (vcells v)] w fun e w' => e = .returned (.bool true) ∧ Gr w w' := by
  obtain ⟨W, hW, hg, hsz, hL, hV⟩ := boxesLV u v w
  have HL := Lib.hid hL
  have HV := Lib.hid hV
  have HG := Lib.hid hg
  have HLU := Lib.hid h
  have HFC := Lib.hid hf.c
  have HFQ := Lib.hid hf.q
  have HCK := Lib.hid (fun w1 (g : Gr w w1) => rcheck9_any u l w1 (h.gr g) hf.q)
  have HCL := Lib.hid (fun w1 (g : Gr w w1) => close_det u l v w1 (h.gr g) hf.c.len)
  obtain ⟨cc, hcc⟩ : ∃ y, y = closeV l v := ⟨_, rfl⟩
  rw [← hcc] at HCL
  have HCC : Hid (closedP l cc) := Lib.hid (by rw [hcc]; exact (closeV_is l v).closed)
  clear h hf hL hV hg hsz hcc
  go_enter Try.func5, Try.ntmps5
  go_upto_region 1 with (fail)
  rw [← hW]
  clear hW
  go_wp2_with fail
  refine (awake9_any W).mono ?_
  rintro e w1 ⟨rfl, g1⟩
  have HG1 := Lib.hid (HG.out.trans g1)
  have HL1 := Lib.hid (HL.out.gr g1)
  have HV1 := Lib.hid (HV.out.gr g1)
  obtain ⟨l0, l1, l2, l3, l4, l5, l6, l7⟩ := HL1.out.all
  clear g1
  go_wp2_with fail
  refine (HCK.out _ HG1.out).mono ?_
  rintro e w2 ⟨rfl, g2⟩
  have HG2 := Lib.hid (HG1.out.trans g2)
  have HL2 := Lib.hid (HL1.out.gr g2)
  have HV2 := Lib.hid (HV1.out.gr g2)
  clear g2 l0 l1 l2 l3 l4 l5 l6 l7 HG1 HL1 HV1 HL HV
  obtain ⟨ec, hec⟩ : ∃ x, x = checkE l := ⟨_, rfl⟩
  rw [← hec]
  have HEC := Lib.hid hec
  clear hec
  by_cases he : ec = 0
  case neg =>
    have hne : ¬ ((ec : Int) = 0) := by omega
    go_wp2_with fail
    go_ret
    exact ⟨rfl, HG2.out⟩
  have HOK : Hid (OkL l) := Lib.hid (okL_iff.1 (by rw [← HEC.out, he]))
  have he0 : (ec : Int) = 0 := by omega
  obtain ⟨l0, l1, l2, l3, l4, l5, l6, l7⟩ := HL2.out.all
  obtain ⟨m0, m1, m2, m3, m4, m5, m6, m7⟩ := HV2.out.all
  clear he HEC
  go_wp2_with fail
  refine (HCL.out _ HG2.out).mono ?_
  rintro e w3 ⟨rfl, g3⟩
  have HG3 := Lib.hid (HG2.out.trans g3)
  have HL3 := Lib.hid (HL2.out.gr g3)
  clear g3 l0 l1 l2 l3 l4 l5 l6 l7 m0 m1 m2 m3 m4 m5 m6 m7 he0
  have hz : VBox (w3.alloc (.cells V0 34)) w3.heap.size (fun _ => 0) := vbox0 (heap_alloc _ _ _)
  obtain ⟨c0, c1, c2, c3, c4, c5, c6, c7⟩ := hz.zero
  obtain ⟨f0, f1, f2, f3, f4, f5, f6, f7⟩ := hz.fz
  go_upto_region 6 with (fail)
  clear c0 c1 c2 c3 c4 c5 c6 c7 f0 f1 f2 f3 f4 f5 f6 f7 hz
  obtain ⟨w4, hw4, g4, hb4⟩ : ∃ x, x = w3.alloc (.cells (vcells cc) 34) ∧ Gr w3 x ∧ VBox x w3.heap.size cc := ⟨_, rfl, (Gr.refl _).alloc _, ⟨heap_alloc _ _ _⟩⟩
  rw [← hw4]
  obtain ⟨P5, hP5⟩ : ∃ P, P = w3.heap.size := ⟨_, rfl⟩
  rw [← hP5] at hb4 ⊢
  obtain ⟨w5, hw5, g5, hb5⟩ : ∃ x, x = w4.alloc (.cells V0 34) ∧ Gr w4 x ∧ VBox x w4.heap.size (fun _ => 0) := ⟨_, rfl, (Gr.refl _).alloc _, vbox0 (heap_alloc _ _ _)⟩
  have h56 : P5 ≠ w4.heap.size := by have := hb4.lt; omega
  have hP6 : w.heap.size ≤ w4.heap.size := by have := HG3.out.size; have := g4.size; omega
  have HC5 := Lib.hid (hb4.gr g5)
  have HL5 := Lib.hid ((HL3.out.gr g4).gr g5)
  have HG5 := Lib.hid ((HG3.out.trans g4).trans g5)
  clear hw4 g4 hb4 hP5 g5
  go_upto_region 7 with (fail)
  rw [← hw5]
  clear hw5
  obtain ⟨P6, hP6e⟩ : ∃ P, P = w4.heap.size := ⟨_, rfl⟩
  rw [← hP6e] at hb5 h56 hP6 ⊢
  have HB6 := Lib.hid hb5
  have H56 := Lib.hid h56
  have HP6 := Lib.hid hP6
  have HOR := Lib.hid (order9_any u l cc w5 (HLU.out.gr HG5.out) HFC.out HOK.out.len)
  obtain ⟨l0, l1, l2, l3, l4, l5, l6, l7⟩ := HL5.out.all
  obtain ⟨m0, m1, m2, m3, m4, m5, m6, m7⟩ := HC5.out.all
  clear hP6e hb5 h56 hP6
  go_wp2_with fail
  refine HOR.out.mono ?_
  rintro e w6 ⟨s, Q, rfl, hq, hx, g6⟩
  have HQ := Lib.hid hq
  obtain ⟨As, cs, hsv, hnc, -, hat⟩ := hx.xv
  obtain ⟨n, hn⟩ : ∃ n, n = Q.length := ⟨_, rfl⟩
  rw [List.length_map, ← hn] at hsv
  subst hsv
  have HS6 : Hid (OlS w P5 P6 w5.heap.size cc (.slice As n cs) Q 0 w6) := Lib.hid ⟨HC5.out.gr g6, HB6.out.gr g6, hx, HG5.out.trans g6⟩
  have HN := Lib.hid hn
  have hnb : n ≤ 8192 := by
    rw [hn, hq.1.length_eq]
    exact sAll_len l _ (fun i hi => Nat.le_trans (Nat.min_le_right _ _) (HOK.out.len i hi)) 8 (Nat.le_refl _)
  clear hq hx hnc hat hn g6 l0 l1 l2 l3 l4 l5 l6 l7 m0 m1 m2 m3 m4 m5 m6 m7
  go_wp2_with fail
  go_loopw [8] (fun i wr => ∃ j : Nat, j ≤ n ∧ i = .int .i64 j ∧ Hid (OlS w P5 P6 w5.heap.size cc (.slice As n cs) Q j wr)) (fun i _ => n - (intOf i).toNat)
  case atStart => exact ⟨0, Nat.zero_le _, rfl, HS6⟩
  case round =>
    obtain ⟨j, hj, rfl, hst⟩ := hrel
    rename World => wr
    by_cases hjn : j < n
    · have hj0 : (0 : Int) ≤ (j : Int) := Int.natCast_nonneg _
      have hjn1 : (j : Int) < (n : Int) := by omega
      have hjl : j < Q.length := by rw [← HN.out]; exact hjn
      obtain ⟨⟨t, m, k⟩, hp⟩ : ∃ p, p = Q[j] := ⟨_, rfl⟩
      have hqj : Q[j]? = some (t, m, k) := by rw [List.getElem?_eq_getElem hjl, ← hp]
      obtain ⟨m', k', t', hm, hkc, hlt, hpe⟩ := (ordQ_mem HQ.out HCC.out.1).1 (List.mem_of_getElem? hqj)
      injection hpe with e1 e2
      injection e2 with e2 e3
      subst e1 e2 e3
      obtain ⟨hot, hor, hsq, -, -⟩ := HOK.out.tx m k t hm hlt
      have hkq := cntQ_at HOK.out HQ.out HCC.out.1 hqj
      have hdq := cntQ_deps HOK.out HQ.out HCC.out hqj
      obtain ⟨hfit, hkey⟩ := HFQ.out m t hm (List.mem_of_getElem? hlt)
      obtain ⟨Ax, cx, hxv, hxn, -, hxat⟩ := hst.out.x.xv
      injection hxv with e1 e2 e3
      subst e1 e3
      obtain ⟨b, off, hA, hxc⟩ := hxat j (by rw [List.length_map]; exact hjl)
      rw [List.getElem_map, ← hp] at hxc
      subst hA
      have hkl : k < 1024 := by
        have h1 := (List.getElem?_eq_some_iff.1 hlt).1
        have h2 := HOK.out.len m hm
        omega
      obtain ⟨tor, tsq, tst, td, tops⟩ := t
      simp only at hor hsq
      subst hor hsq
      obtain ⟨vx, hvx, hfx⟩ := hxc
      have HCH := Lib.hid (fun w1 (g : Gr wr w1) => rcheck8_any ⟨(m : Int), k + 1, tst, td, tops⟩ vx hfit hkey w1 (hvx.gr g))
      rw [check_yes hot] at HCH
      have HLQ := Lib.hid (fun w1 => rleq_any td (cntQ Q j) w1)
      rw [show leqB td (cntQ Q j) = true from hdq] at HLQ
      obtain ⟨Av, cv, hvf⟩ := tov_form hvx
      subst hvf
      obtain ⟨nv, hnv⟩ : ∃ n, n = tops.length := ⟨_, rfl⟩
      have hfx : XFix wr b (off + j * 12) ⟨(m : Int), k + 1, tst, td, tops⟩ (.slice Av nv cv) := by rw [hnv]; exact hfx
      have HCH : Hid (∀ w1, Gr wr w1 → Calls Try.prog 24 #[.agg (tcs ⟨(m : Int), k + 1, tst, td, tops⟩ (.slice Av nv cv))] w1 fun e w' => e = .returned (.int .i64 0) ∧ Gr w1 w') := Lib.hid (by rw [hnv]; exact HCH.out)
      obtain ⟨W7, hW7, g7, hx7⟩ := xbox wr ⟨(m : Int), k + 1, tst, td, tops⟩ (.slice Av nv cv)
      have hcd := hst.out.d.at hm
      rw [← hkq] at hcd
      have HS7 := Lib.hid (hst.out.next g7)
      have HQJ := Lib.hid hqj
      have HKQ := Lib.hid hkq
      have HM8 := Lib.hid hm
      have HXF := Lib.hid hx7
      have HG7 := Lib.hid g7
      have hm8 : (m : Int) < 8 := by omega
      have hm0 : (0 : Int) ≤ (m : Int) := Int.natCast_nonneg _
      have hwr : IntKind.u64.wrap ((k : Int) + 1) = ((k + 1 : Nat) : Int) := by simp [IntKind.wrap, IntKind.bits, IntKind.signed]; omega
      obtain ⟨x0, x1, x2, x3, x4, x5, x6, x7, x8, x9, x10, x11⟩ := hfx
      simp only at x0 x1 x2 x3 x4 x5 x6 x7 x8 x9 x10
      clear hst hp hqj hkc hlt hot hkq hdq hfit hkey e2 hxn hxat hvx hnv hx7 g7 hm hcd
      have hz : (wr.alloc (.cells zeroX 44)).heap[wr.heap.size]? = some (.cells zeroX 44 (0, 0)) := heap_alloc _ _ _
      have z0 : (wr.alloc (.cells zeroX 44)).cell? ⟨wr.heap.size, 0, none⟩ = some (.int .i64 0) := by rw [cell_of_block hz]; rfl
      have k0 := unfrozen_of_block hz 0
      have z1 : (wr.alloc (.cells zeroX 44)).cell? ⟨wr.heap.size, 1, none⟩ = some (.int .u64 0) := by rw [cell_of_block hz]; rfl
      have k1 := unfrozen_of_block hz 1
      have z2 : (wr.alloc (.cells zeroX 44)).cell? ⟨wr.heap.size, 2, none⟩ = some (.int .u64 0) := by rw [cell_of_block hz]; rfl
      have k2 := unfrozen_of_block hz 2
      have z3 : (wr.alloc (.cells zeroX 44)).cell? ⟨wr.heap.size, 3, none⟩ = some (.int .u64 0) := by rw [cell_of_block hz]; rfl
      have k3 := unfrozen_of_block hz 3
      have z4 : (wr.alloc (.cells zeroX 44)).cell? ⟨wr.heap.size, 4, none⟩ = some (.int .u64 0) := by rw [cell_of_block hz]; rfl
      have k4 := unfrozen_of_block hz 4
      have z5 : (wr.alloc (.cells zeroX 44)).cell? ⟨wr.heap.size, 5, none⟩ = some (.int .u64 0) := by rw [cell_of_block hz]; rfl
      have k5 := unfrozen_of_block hz 5
      have z6 : (wr.alloc (.cells zeroX 44)).cell? ⟨wr.heap.size, 6, none⟩ = some (.int .u64 0) := by rw [cell_of_block hz]; rfl
      have k6 := unfrozen_of_block hz 6
      have z7 : (wr.alloc (.cells zeroX 44)).cell? ⟨wr.heap.size, 7, none⟩ = some (.int .u64 0) := by rw [cell_of_block hz]; rfl
      have k7 := unfrozen_of_block hz 7
      have z8 : (wr.alloc (.cells zeroX 44)).cell? ⟨wr.heap.size, 8, none⟩ = some (.int .u64 0) := by rw [cell_of_block hz]; rfl
      have k8 := unfrozen_of_block hz 8
      have z9 : (wr.alloc (.cells zeroX 44)).cell? ⟨wr.heap.size, 9, none⟩ = some (.int .u64 0) := by rw [cell_of_block hz]; rfl
      have k9 := unfrozen_of_block hz 9
      have z10 : (wr.alloc (.cells zeroX 44)).cell? ⟨wr.heap.size, 10, none⟩ = some (.int .u64 0) := by rw [cell_of_block hz]; rfl
      have k10 := unfrozen_of_block hz 10
      have z11 : (wr.alloc (.cells zeroX 44)).cell? ⟨wr.heap.size, 11, none⟩ = some (.slice none 0 0) := by rw [cell_of_block hz]; rfl
      have k11 := unfrozen_of_block hz 11
      go_upto_region 12 with (fail)
      clear z0 k0 z1 k1 z2 k2 z3 k3 z4 k4 z5 k5 z6 k6 z7 k7 z8 k8 z9 k9 z10 k10 z11 k11 hz x0 x1 x2 x3 x4 x5 x6 x7 x8 x9 x10 x11
      change Code.wp Try.prog _ _ _ (wr.alloc (.cells (tcs ⟨(m : Int), k + 1, tst, td, tops⟩ (.slice Av nv cv)) 44))
      rw [← hW7]
      clear hW7
      obtain ⟨P9, hP9⟩ : ∃ P, P = wr.heap.size := ⟨_, rfl⟩
      rw [← hP9] at HXF ⊢
      clear hP9
      have HYD := Lib.hid HS7.out.d.vc
      have HYC : Hid (W7.cell? ⟨P6, m, none⟩ = some (.int .u64 (k : Int))) := Lib.hid (by have := HS7.out.d.at HM8.out; rw [← HKQ.out] at this; exact this)
      refine qRegion (fun w' => XFix w' P9 0 ⟨(m : Int), k + 1, tst, td, tops⟩ (.slice Av nv cv) ∧ VC w' P6 (cntQ Q j) ∧ w'.cell? ⟨P6, m, none⟩ = some (.int .u64 (k : Int)) ∧ Gr W7 w') (by kernel_rfl) (by kernel_rfl) ⟨HXF.out.gr (Gr.refl _).drew, HYD.out.gr (Gr.refl _).drew, (Gr.refl _).drew.cell HYC.out, (Gr.refl _).drew⟩ ?_
      iterate 1
        refine qTake (by kernel_rfl) ?_
        apply Exists.intro
        refine ⟨fun wq hq => ?_, ?_⟩
        · go_light
          obtain ⟨⟨x0, x1, x2, x3, x4, x5, x6, x7, x8, x9, x10, x11⟩, ⟨y0, y1, y2, y3, y4, y5, y6, y7⟩, yk, -⟩ := hq
          go_simp
          try with_reducible rfl
          done
        try simp only [Act.put, List.setIfInBounds_toArray, List.set_cons_zero, List.set_cons_succ]
      refine qCall (by kernel_rfl) ?_
      apply Exists.intro
      refine ⟨?_, ?_⟩
      · apply Exists.intro
        apply Exists.intro
        refine ⟨fun wq => ?_, fun wq hq => ?_⟩
        · go_light
          go_simp
          exact ⟨rfl, rfl⟩
        · exact (HCH.out wq (HG7.out.trans hq.2.2.2)).mono fun e w'' ⟨he, hg⟩ => ⟨he, hq.1.gr hg, hq.2.1.gr hg, hg.cell hq.2.2.1, hq.2.2.2.trans hg⟩
      try simp only [Act.put, List.setIfInBounds_toArray, List.set_cons_zero, List.set_cons_succ]
      iterate 15
        refine qTake (by kernel_rfl) ?_
        apply Exists.intro
        refine ⟨fun wq hq => ?_, ?_⟩
        · go_light
          obtain ⟨⟨x0, x1, x2, x3, x4, x5, x6, x7, x8, x9, x10, x11⟩, ⟨y0, y1, y2, y3, y4, y5, y6, y7⟩, yk, -⟩ := hq
          go_simp
          try with_reducible rfl
          done
        try simp only [Act.put, List.setIfInBounds_toArray, List.set_cons_zero, List.set_cons_succ]
      refine qCall (by kernel_rfl) ?_
      apply Exists.intro
      refine ⟨?_, ?_⟩
      · apply Exists.intro
        apply Exists.intro
        refine ⟨fun wq => ?_, fun wq hq => ?_⟩
        · go_light
          go_simp
          exact ⟨rfl, rfl⟩
        · exact (HLQ.out wq).mono fun e w'' ⟨he, hg⟩ => ⟨he, hq.1.gr hg, hq.2.1.gr hg, hg.cell hq.2.2.1, hq.2.2.2.trans hg⟩
      try simp only [Act.put, List.setIfInBounds_toArray, List.set_cons_zero, List.set_cons_succ]
      iterate 2
        refine qTake (by kernel_rfl) ?_
        apply Exists.intro
        refine ⟨fun wq hq => ?_, ?_⟩
        · go_light
          obtain ⟨⟨x0, x1, x2, x3, x4, x5, x6, x7, x8, x9, x10, x11⟩, ⟨y0, y1, y2, y3, y4, y5, y6, y7⟩, yk, -⟩ := hq
          go_simp
          try with_reducible rfl
          done
        try simp only [Act.put, List.setIfInBounds_toArray, List.set_cons_zero, List.set_cons_succ]
      refine qNil ?_
      rintro w8 ⟨hx8, -, hk8, hg8⟩
      have hS8 := HS7.out.next hg8
      have hfz : w8.frozen? ⟨P6, m, none⟩ = false := unfrozen_of_block hS8.d.box m
      have HS9 : Hid (OlS w P5 P6 w5.heap.size cc (.slice (some ⟨b, off, none⟩) n cs) Q (j + 1) (w8.setCell ⟨P6, m, none⟩ (.int .u64 ((k + 1 : Nat) : Int)))) := Lib.hid (hS8.more H56.out HP6.out HQJ.out HM8.out HKQ.out)
      obtain ⟨x0, x1, x2, x3, x4, x5, x6, x7, x8, x9, x10, x11⟩ := hx8
      simp only at x0
      clear x1 x2 x3 x4 x5 x6 x7 x8 x9 x10 x11 hS8 hg8
      go_wp2_with fail
      go_roundw
      case measure => simp [intOf]; omega
      case rel => exact ⟨j + 1, by omega, by go_num, HS9⟩
    · obtain rfl : j = n := by omega
      have hS := hst.out
      have hbd : VBox wr P6 cc := ⟨by rw [← vcells_congr (a := cntQ Q j) (b := cc) fun i hi => by rw [HN.out]; exact cntQ_all HOK.out HQ.out HCC.out.1 hi]; exact hS.d.box⟩
      obtain ⟨p0, p1, p2, p3, p4, p5, p6, p7⟩ := hbd.all
      obtain ⟨q0, q1, q2, q3, q4, q5, q6, q7⟩ := hS.c.all
      have heq := fun w => equal_ww cc w
      have HGF := Lib.hid hS.gr
      clear hS hst hbd
      go_wp2_with fail
      go_ret
      exact ⟨rfl, HGF.out⟩
end Go.Proofs.Ytlgljanofppleaa
