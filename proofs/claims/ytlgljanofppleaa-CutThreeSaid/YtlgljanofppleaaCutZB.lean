/- The law CutThree. -/
import Derived.Test.YtlgljanofppleaaCutY
import Derived.Test.YtlgljanofppleaaCutZA
import Derived.Test.YtlgljanofppleaaCutJ
namespace Go.Proofs.Ytlgljanofppleaa
open Go.RowKit Go.Joins
set_option linter.unusedSimpArgs false
set_option linter.unusedVariables false

theorem CanL.pre {l : LG} (h : CanL l) (c : Nat → Nat) : CanL (pre l c) := fun i t hi ht => h i t hi (List.mem_of_mem_take ht)
theorem FitQ.pre {l : LG} (h : FitQ l) (c : Nat → Nat) : FitQ (pre l c) := fun i t hi ht => h i t hi (List.mem_of_mem_take ht)
theorem FitC.pre {l : LG} (h : FitC l) (c : Nat → Nat) : FitC (pre l c) := ⟨fun i hi => by
  have h1 := h.len i hi
  have h2 : (Go.Proofs.Ytlgljanofppleaa.pre l c i).length ≤ (l i).length := by
    show ((l i).take (c i)).length ≤ _
    rw [List.length_take]; omega
  omega, fun i t hi ht => h.tx i t hi (List.mem_of_mem_take ht)⟩
theorem compat_congr {a a' b b' : LG} (h : compat a b) (ea : ∀ i, i < 8 → a i = a' i) (eb : ∀ i, i < 8 → b i = b' i) : compat a' b' := fun i hi => by rw [← ea i hi, ← eb i hi]; exact h i hi
theorem jnL_congr {a a' b b' : LG} {i : Nat} (ea : a i = a' i) (eb : b i = b' i) : jnL a b i = jnL a' b' i := by unfold jnL; rw [ea, eb]
theorem leq_jn {a b c : Nat → Nat} (h : leqB a c = true) (k : leqB b c = true) : leqB (jn a b) c = true := lq_of fun i hi => by
  have := lq h hi
  have := lq k hi
  show max _ _ ≤ _
  omega
/-- Three beginnings of logs, joined either way. -/
theorem three_facts {l : LG} (ok : checkE l = 0) {p q r : Nat → Nat} (hp : closedP l p) (hq : closedP l q) (hr : closedP l r) :
    joinR (pre l p) (pre l q) = (0, jnL (pre l p) (pre l q)) ∧ joinR (jnL (pre l p) (pre l q)) (pre l r) = (0, jnL (jnL (pre l p) (pre l q)) (pre l r)) ∧
    joinR (pre l q) (pre l r) = (0, jnL (pre l q) (pre l r)) ∧ joinR (pre l p) (jnL (pre l q) (pre l r)) = (0, jnL (pre l p) (jnL (pre l q) (pre l r))) ∧
    sameLG (jnL (jnL (pre l p) (pre l q)) (pre l r)) (jnL (pre l p) (jnL (pre l q) (pre l r))) = true := by
  have hl := okL_iff.1 ok
  have ea := okL_iff.2 (okL_pre hl hp)
  have eb := okL_iff.2 (okL_pre hl hq)
  have ec := okL_iff.2 (okL_pre hl hr)
  have c1 := compat_pre l hp.1 hq.1
  have c2 := compat_pre l hq.1 hr.1
  have e1 : ∀ i, i < 8 → pre l (jn p q) i = jnL (pre l p) (pre l q) i := fun i hi => (jnL_pre l hp.1 hq.1 hi).symm
  have e2 : ∀ i, i < 8 → pre l (jn q r) i = jnL (pre l q) (pre l r) i := fun i hi => (jnL_pre l hq.1 hr.1 hi).symm
  have ej := okL_iff.2 (okL_jn (okL_iff.1 ea) (okL_iff.1 eb) c1)
  have ek := okL_iff.2 (okL_jn (okL_iff.1 eb) (okL_iff.1 ec) c2)
  refine ⟨joinR_of ea eb c1, joinR_of ej ec (compat_congr (compat_pre l (leq_jn hp.1 hq.1) hr.1) e1 (fun _ _ => rfl)), joinR_of eb ec c2, joinR_of ea ek (compat_congr (compat_pre l hp.1 (leq_jn hq.1 hr.1)) (fun _ _ => rfl) e2), sameLG_of fun i hi => ?_⟩
  rw [jnL_congr (e1 i hi).symm rfl, jnL_congr (b := jnL (pre l q) (pre l r)) rfl (e2 i hi).symm, jnL_pre l (leq_jn hp.1 hq.1) hr.1 hi, jnL_pre l hp.1 (leq_jn hq.1 hr.1) hi]
  show (l i).take (max (max _ _) _) = (l i).take (max _ (max _ _))
  rw [Nat.max_assoc]
theorem join9_ok (u v : Nat → S3) (a b J : LG) (w : World) (hj : joinR a b = (0, J)) (ha : LV w u a) (hb : LV w v b) (hqa : FitQ a) (hqb : FitQ b) (hfa : FitC a) (hfb : FitC b) (hna : CanL a) (hnb : CanL b) :
    Calls Try.prog 11 #[.agg (lcells u), .agg (lcells v)] w fun e w' => ∃ u', e = .returned (.tuple #[.agg (lcells u'), .int .i64 0]) ∧ LN w' w.heap.size u' J ∧ Gr w w' :=
  (join9_any u v a b w ha hb hqa hqb hfa hfb hna hnb).mono fun e w' ⟨u', he, hl, hg⟩ => by
    rw [hj] at he hl
    exact ⟨u', he, hl, hg⟩
theorem boxesTh (u : Nat → S3) (v1 v2 v3 : Nat → Nat) (w : World) : ∃ W, W = (((w.alloc (.cells (lcells u) 24)).alloc (.cells (vcells v1) 34)).alloc (.cells (vcells v2) 34)).alloc (.cells (vcells v3) 34) ∧ Gr w W ∧
    LBox W w.heap.size u ∧ VBox W (w.heap.size + 1) v1 ∧ VBox W (w.heap.size + 1 + 1) v2 ∧ VBox W (w.heap.size + 1 + 1 + 1) v3 := by
  obtain ⟨W, hW, hg, hL, hV, hX⟩ := boxesCc u v1 v2 w
  rw [← hW]
  have hs : W.heap.size = w.heap.size + 3 := by rw [hW]; simp
  have h1 := heap_alloc W (vcells v3) 34
  rw [hs] at h1
  exact ⟨_, rfl, hg.alloc _, hL.gr ((Gr.refl _).alloc _), hV.gr ((Gr.refl _).alloc _), hX.gr ((Gr.refl _).alloc _), ⟨h1⟩⟩
def F3 (u : Nat → S3) (v1 v2 v3 p q r : Nat → Nat) : Nat → Option Value
  | 0 => some (.agg (lcells u))
  | 1 => some (.agg (lcells u))
  | 2 => some (.agg (vcells v1))
  | 3 => some (.agg (vcells p))
  | 5 => some (.agg (lcells u))
  | 6 => some (.agg (lcells u))
  | 7 => some (.agg (vcells v2))
  | 8 => some (.agg (vcells q))
  | 10 => some (.agg (lcells u))
  | 11 => some (.agg (lcells u))
  | 12 => some (.agg (vcells v3))
  | 13 => some (.agg (vcells r))
  | _ => none
def G3 (a b c : LG) : Nat → Option LG
  | 4 => some a
  | 9 => some b
  | 14 => some c
  | _ => none
set_option maxRecDepth 100000 in
set_option maxHeartbeats 4000000 in
theorem three9_law (u : Nat → S3) (l : LG) (v1 v2 v3 : Nat → Nat) (w : World) (h : LV w u l) (hf : FitL l) :
    Calls Try.prog 9 #[.agg (lcells u), .agg (vcells v1), .agg (vcells v2), .agg (vcells v3)] w fun e w' => e = .returned (.bool true) ∧ Gr w w' := by
  obtain ⟨W, hW, hg, hL, hV1, hV2, hV3⟩ := boxesTh u v1 v2 v3 w
  have HL := Lib.hid hL
  have HV1 := Lib.hid hV1
  have HV2 := Lib.hid hV2
  have HV3 := Lib.hid hV3
  have HG := Lib.hid hg
  have HFC := Lib.hid hf.c
  have HFQ := Lib.hid hf.q
  have HCN : Hid (CanL l) := Lib.hid fun i t hi ht => hf.can i t hi ht
  have HCK := Lib.hid (fun w1 (g : Gr W w1) => rcheck9_any u l w1 ((h.gr hg).gr g) hf.q)
  obtain ⟨p, hp⟩ : ∃ y, y = closeV l v1 := ⟨_, rfl⟩
  obtain ⟨q, hq⟩ : ∃ y, y = closeV l v2 := ⟨_, rfl⟩
  obtain ⟨r, hr⟩ : ∃ y, y = closeV l v3 := ⟨_, rfl⟩
  have HP : Hid (closedP l p) := Lib.hid (by rw [hp]; exact (closeV_is l v1).closed)
  have HQ : Hid (closedP l q) := Lib.hid (by rw [hq]; exact (closeV_is l v2).closed)
  have HR : Hid (closedP l r) := Lib.hid (by rw [hr]; exact (closeV_is l v3).closed)
  have HC1 := Lib.hid (fun w1 (g : Gr W w1) => rclose_det u l v1 w1 ((h.gr hg).gr g))
  have HC2 := Lib.hid (fun w1 (g : Gr W w1) => rclose_det u l v2 w1 ((h.gr hg).gr g))
  have HC3 := Lib.hid (fun w1 (g : Gr W w1) => rclose_det u l v3 w1 ((h.gr hg).gr g))
  rw [← hp] at HC1
  rw [← hq] at HC2
  rw [← hr] at HC3
  have HF1 := Lib.hid (fun w1 (g : Gr W w1) => first9_any u l p w1 ((h.gr hg).gr g) hf.c HP.out.1)
  have HF2 := Lib.hid (fun w1 (g : Gr W w1) => first9_any u l q w1 ((h.gr hg).gr g) hf.c HQ.out.1)
  have HF3 := Lib.hid (fun w1 (g : Gr W w1) => first9_any u l r w1 ((h.gr hg).gr g) hf.c HR.out.1)
  obtain ⟨a, ha⟩ : ∃ y, y = pre l p := ⟨_, rfl⟩
  obtain ⟨b, hb⟩ : ∃ y, y = pre l q := ⟨_, rfl⟩
  obtain ⟨c, hc⟩ : ∃ y, y = pre l r := ⟨_, rfl⟩
  rw [← ha] at HF1
  rw [← hb] at HF2
  rw [← hc] at HF3
  have HTF := Lib.hid (fun ok : checkE l = 0 => three_facts ok HP.out HQ.out HR.out)
  rw [← ha, ← hb, ← hc] at HTF
  have HQA : Hid (FitQ a ∧ FitQ b ∧ FitQ c) := Lib.hid (by rw [ha, hb, hc]; exact ⟨HFQ.out.pre _, HFQ.out.pre _, HFQ.out.pre _⟩)
  have HCA : Hid (FitC a ∧ FitC b ∧ FitC c) := Lib.hid (by rw [ha, hb, hc]; exact ⟨HFC.out.pre _, HFC.out.pre _, HFC.out.pre _⟩)
  have HNA : Hid (CanL a ∧ CanL b ∧ CanL c) := Lib.hid (by rw [ha, hb, hc]; exact ⟨HCN.out.pre _, HCN.out.pre _, HCN.out.pre _⟩)
  clear h hf hL hV1 hV2 hV3 hg hp hq hr ha hb hc
  go_enter Try.func9, Try.ntmps9
  go_upto_region 1 with (fail)
  rw [← hW]
  clear hW
  go_wp2_with fail
  refine (awake9_any W).mono ?_
  rintro e w1 ⟨rfl, g1⟩
  have HG1 := Lib.hid g1
  obtain ⟨l0, l1, l2, l3, l4, l5, l6, l7⟩ := (HL.out.gr g1).all
  clear g1
  go_wp2_with fail
  refine (HCK.out _ HG1.out).mono ?_
  rintro e w2 ⟨rfl, g2⟩
  have HG2 := Lib.hid (HG1.out.trans g2)
  clear g2 l0 l1 l2 l3 l4 l5 l6 l7 HG1
  obtain ⟨ec, hec⟩ : ∃ x, x = checkE l := ⟨_, rfl⟩
  rw [← hec]
  have HEC := Lib.hid hec
  clear hec
  by_cases he : ec = 0
  case neg =>
    have hne : ¬ ((ec : Int) = 0) := by omega
    go_wp2_with fail
    go_ret
    exact ⟨rfl, HG.out.trans HG2.out⟩
  obtain ⟨hj1, hj2, hj3, hj4, hsm⟩ := HTF.out (by rw [← HEC.out, he])
  have he0 : (ec : Int) = 0 := by omega
  obtain ⟨X1, hX1⟩ : ∃ y, y = jnL a b := ⟨_, rfl⟩
  have HQX : Hid (FitQ X1 ∧ FitC X1 ∧ CanL X1) := Lib.hid (by rw [hX1]; exact ⟨HQA.out.1.jn HQA.out.2.1, fitC_jn HCA.out.1 HCA.out.2.1, HNA.out.1.jn HNA.out.2.1⟩)
  rw [← hX1] at hj1 hj2 hsm
  obtain ⟨X2, hX2⟩ : ∃ y, y = jnL X1 c := ⟨_, rfl⟩
  rw [← hX2] at hj2 hsm
  obtain ⟨Y1, hY1⟩ : ∃ y, y = jnL b c := ⟨_, rfl⟩
  have HQY : Hid (FitQ Y1 ∧ FitC Y1 ∧ CanL Y1) := Lib.hid (by rw [hY1]; exact ⟨HQA.out.2.1.jn HQA.out.2.2, fitC_jn HCA.out.2.1 HCA.out.2.2, HNA.out.2.1.jn HNA.out.2.2⟩)
  rw [← hY1] at hj3 hj4 hsm
  obtain ⟨Y2, hY2⟩ : ∃ y, y = jnL a Y1 := ⟨_, rfl⟩
  rw [← hY2] at hj4 hsm
  have HJ1 := Lib.hid (fun u1 u2 w1 (k1 : LV w1 u1 a) (k2 : LV w1 u2 b) => join9_ok u1 u2 a b X1 w1 hj1 k1 k2 HQA.out.1 HQA.out.2.1 HCA.out.1 HCA.out.2.1 HNA.out.1 HNA.out.2.1)
  have HJ2 := Lib.hid (fun u1 u2 w1 (k1 : LV w1 u1 X1) (k2 : LV w1 u2 c) => join9_ok u1 u2 X1 c X2 w1 hj2 k1 k2 HQX.out.1 HQA.out.2.2 HQX.out.2.1 HCA.out.2.2 HQX.out.2.2 HNA.out.2.2)
  have HJ3 := Lib.hid (fun u1 u2 w1 (k1 : LV w1 u1 b) (k2 : LV w1 u2 c) => join9_ok u1 u2 b c Y1 w1 hj3 k1 k2 HQA.out.2.1 HQA.out.2.2 HCA.out.2.1 HCA.out.2.2 HNA.out.2.1 HNA.out.2.2)
  have HJ4 := Lib.hid (fun u1 u2 w1 (k1 : LV w1 u1 a) (k2 : LV w1 u2 Y1) => join9_ok u1 u2 a Y1 Y2 w1 hj4 k1 k2 HQA.out.1 HQY.out.1 HCA.out.1 HQY.out.2.1 HNA.out.1 HQY.out.2.2)
  have HSM := Lib.hid hsm
  clear hj1 hj2 hj3 hj4 hsm hX1 hX2 hY1 hY2
  go_upto_region 5 with (fail)
  clear he he0
  go_cut [9, 10, 11] (fun s9 s10 s11 wx => ∃ Pa Pb Pc ua ub uc, s9 = .pointer (some ⟨Pa, 0, none⟩) ∧ s10 = .pointer (some ⟨Pb, 0, none⟩) ∧ s11 = .pointer (some ⟨Pc, 0, none⟩) ∧ Hid (LBox wx Pa ua ∧ LBox wx Pb ub ∧ LBox wx Pc uc ∧ LN wx w2.heap.size ua a ∧ LN wx w2.heap.size ub b ∧ LN wx w2.heap.size uc c ∧ Gr W wx))
  case first =>
    refine wp_region_noPanic ?_
    refine iRegionA (RI btL w2 (QL (F3 u v1 v2 v3 p q r) (G3 a b c) (fun _ => none) w2.heap.size) [(15, 18, 4), (16, 19, 9), (17, 20, 14)] (fun _ => 24) (fun _ => lcells fun _ => ⟨none, 0, 0⟩)) (by kernel_rfl) (by kernel_rfl) (ri_start QL.st (Gr.refl _)) ?_ ?_
    · intro i o ho vals wc A hI hn hdep hOld hNew
      have hi : i < 21 := (List.getElem?_eq_some_iff.1 ho).1
      have hgc := HG2.out.trans hI.gr
      have hL := HL.out.gr hgc
      have hV1 := HV1.out.gr hgc
      have hV2 := HV2.out.gr hgc
      have hV3 := HV3.out.gr hgc
      obtain ⟨l0, l1, l2, l3, l4, l5, l6, l7⟩ := hL.all
      obtain ⟨m0, m1, m2, m3, m4, m5, m6, m7⟩ := hV1.all
      obtain ⟨n0, n1, n2, n3, n4, n5, n6, n7⟩ := hV2.all
      obtain ⟨o0, o1, o2, o3, o4, o5, o6, o7⟩ := hV3.all
      have eo4 : A.tmps[4]?.getD undef = .pointer (some ⟨w.heap.size, 0, none⟩) := slotE (hOld 4 (by kernel_rfl))
      have eo5 : A.tmps[5]?.getD undef = .pointer (some ⟨w.heap.size + 1, 0, none⟩) := slotE (hOld 5 (by kernel_rfl))
      have eo6 : A.tmps[6]?.getD undef = .pointer (some ⟨w.heap.size + 1 + 1, 0, none⟩) := slotE (hOld 6 (by kernel_rfl))
      have eo7 : A.tmps[7]?.getD undef = .pointer (some ⟨w.heap.size + 1 + 1 + 1, 0, none⟩) := slotE (hOld 7 (by kernel_rfl))
      obtain rfl | rfl | rfl | rfl | rfl | rfl | rfl | rfl | rfl | rfl | rfl | rfl | rfl | rfl | rfl | rfl | rfl | rfl | rfl | rfl | rfl : i = 0 ∨ i = 1 ∨ i = 2 ∨ i = 3 ∨ i = 4 ∨ i = 5 ∨ i = 6 ∨ i = 7 ∨ i = 8 ∨ i = 9 ∨ i = 10 ∨ i = 11 ∨ i = 12 ∨ i = 13 ∨ i = 14 ∨ i = 15 ∨ i = 16 ∨ i = 17 ∨ i = 18 ∨ i = 19 ∨ i = 20 := by omega
      · obtain rfl := Option.some.inj (show some _ = some o from ho)
        refine aVal rfl rfl (v := .agg (lcells u)) (w' := wc) ?_ ⟨_, rfl, hI.val hn (by decide) (qlF rfl rfl rfl)⟩
        go_simp
      · obtain rfl := Option.some.inj (show some _ = some o from ho)
        refine aVal rfl rfl (v := .agg (lcells u)) (w' := wc) ?_ ⟨_, rfl, hI.val hn (by decide) (qlF rfl rfl rfl)⟩
        go_simp
      · obtain rfl := Option.some.inj (show some _ = some o from ho)
        refine aVal rfl rfl (v := .agg (vcells v1)) (w' := wc) ?_ ⟨_, rfl, hI.val hn (by decide) (qlF rfl rfl rfl)⟩
        go_simp
      · obtain rfl := Option.some.inj (show some _ = some o from ho)
        obtain ⟨y1, hy1⟩ := hdep ⟨1, .data⟩ (by simp) rfl
        have s1 := slotE (hNew 1 24 _ y1 rfl rfl (by kernel_rfl) hy1)
        rw [(hI.ok 1 y1 hy1).f _ rfl] at s1
        obtain ⟨y2, hy2⟩ := hdep ⟨2, .data⟩ (by simp) rfl
        have s2 := slotE (hNew 2 25 _ y2 rfl rfl (by kernel_rfl) hy2)
        rw [(hI.ok 2 y2 hy2).f _ rfl] at s2
        refine aCall rfl rfl (w1 := wc) ?_ ((HC1.out wc hgc).mono fun e w' ⟨he, hg⟩ => ⟨_, he, _, rfl, (hI.next hg).val hn (by decide) (qlF rfl rfl rfl)⟩)
        go_simp
      · obtain rfl := Option.some.inj (show some _ = some o from ho)
        obtain ⟨y0, hy0⟩ := hdep ⟨0, .data⟩ (by simp) rfl
        have s0 := slotE (hNew 0 23 _ y0 rfl rfl (by kernel_rfl) hy0)
        rw [(hI.ok 0 y0 hy0).f _ rfl] at s0
        obtain ⟨y3, hy3⟩ := hdep ⟨3, .data⟩ (by simp) rfl
        have s3 := slotE (hNew 3 26 _ y3 rfl rfl (by kernel_rfl) hy3)
        rw [(hI.ok 3 y3 hy3).f _ rfl] at s3
        refine aCall rfl rfl (w1 := wc) ?_ ((HF1.out wc hgc).mono fun e w' ⟨ux, he, hlx, hg⟩ => ⟨_, he, _, rfl, (hI.next hg).val hn (by decide) (qlG rfl rfl rfl (hlx.le hI.gr.size))⟩)
        go_simp
      · obtain rfl := Option.some.inj (show some _ = some o from ho)
        refine aVal rfl rfl (v := .agg (lcells u)) (w' := wc) ?_ ⟨_, rfl, hI.val hn (by decide) (qlF rfl rfl rfl)⟩
        go_simp
      · obtain rfl := Option.some.inj (show some _ = some o from ho)
        refine aVal rfl rfl (v := .agg (lcells u)) (w' := wc) ?_ ⟨_, rfl, hI.val hn (by decide) (qlF rfl rfl rfl)⟩
        go_simp
      · obtain rfl := Option.some.inj (show some _ = some o from ho)
        refine aVal rfl rfl (v := .agg (vcells v2)) (w' := wc) ?_ ⟨_, rfl, hI.val hn (by decide) (qlF rfl rfl rfl)⟩
        go_simp
      · obtain rfl := Option.some.inj (show some _ = some o from ho)
        obtain ⟨y6, hy6⟩ := hdep ⟨6, .data⟩ (by simp) rfl
        have s6 := slotE (hNew 6 29 _ y6 rfl rfl (by kernel_rfl) hy6)
        rw [(hI.ok 6 y6 hy6).f _ rfl] at s6
        obtain ⟨y7, hy7⟩ := hdep ⟨7, .data⟩ (by simp) rfl
        have s7 := slotE (hNew 7 30 _ y7 rfl rfl (by kernel_rfl) hy7)
        rw [(hI.ok 7 y7 hy7).f _ rfl] at s7
        refine aCall rfl rfl (w1 := wc) ?_ ((HC2.out wc hgc).mono fun e w' ⟨he, hg⟩ => ⟨_, he, _, rfl, (hI.next hg).val hn (by decide) (qlF rfl rfl rfl)⟩)
        go_simp
      · obtain rfl := Option.some.inj (show some _ = some o from ho)
        obtain ⟨y5, hy5⟩ := hdep ⟨5, .data⟩ (by simp) rfl
        have s5 := slotE (hNew 5 28 _ y5 rfl rfl (by kernel_rfl) hy5)
        rw [(hI.ok 5 y5 hy5).f _ rfl] at s5
        obtain ⟨y8, hy8⟩ := hdep ⟨8, .data⟩ (by simp) rfl
        have s8 := slotE (hNew 8 31 _ y8 rfl rfl (by kernel_rfl) hy8)
        rw [(hI.ok 8 y8 hy8).f _ rfl] at s8
        refine aCall rfl rfl (w1 := wc) ?_ ((HF2.out wc hgc).mono fun e w' ⟨ux, he, hlx, hg⟩ => ⟨_, he, _, rfl, (hI.next hg).val hn (by decide) (qlG rfl rfl rfl (hlx.le hI.gr.size))⟩)
        go_simp
      · obtain rfl := Option.some.inj (show some _ = some o from ho)
        refine aVal rfl rfl (v := .agg (lcells u)) (w' := wc) ?_ ⟨_, rfl, hI.val hn (by decide) (qlF rfl rfl rfl)⟩
        go_simp
      · obtain rfl := Option.some.inj (show some _ = some o from ho)
        refine aVal rfl rfl (v := .agg (lcells u)) (w' := wc) ?_ ⟨_, rfl, hI.val hn (by decide) (qlF rfl rfl rfl)⟩
        go_simp
      · obtain rfl := Option.some.inj (show some _ = some o from ho)
        refine aVal rfl rfl (v := .agg (vcells v3)) (w' := wc) ?_ ⟨_, rfl, hI.val hn (by decide) (qlF rfl rfl rfl)⟩
        go_simp
      · obtain rfl := Option.some.inj (show some _ = some o from ho)
        obtain ⟨y11, hy11⟩ := hdep ⟨11, .data⟩ (by simp) rfl
        have s11 := slotE (hNew 11 34 _ y11 rfl rfl (by kernel_rfl) hy11)
        rw [(hI.ok 11 y11 hy11).f _ rfl] at s11
        obtain ⟨y12, hy12⟩ := hdep ⟨12, .data⟩ (by simp) rfl
        have s12 := slotE (hNew 12 35 _ y12 rfl rfl (by kernel_rfl) hy12)
        rw [(hI.ok 12 y12 hy12).f _ rfl] at s12
        refine aCall rfl rfl (w1 := wc) ?_ ((HC3.out wc hgc).mono fun e w' ⟨he, hg⟩ => ⟨_, he, _, rfl, (hI.next hg).val hn (by decide) (qlF rfl rfl rfl)⟩)
        go_simp
      · obtain rfl := Option.some.inj (show some _ = some o from ho)
        obtain ⟨y10, hy10⟩ := hdep ⟨10, .data⟩ (by simp) rfl
        have s10 := slotE (hNew 10 33 _ y10 rfl rfl (by kernel_rfl) hy10)
        rw [(hI.ok 10 y10 hy10).f _ rfl] at s10
        obtain ⟨y13, hy13⟩ := hdep ⟨13, .data⟩ (by simp) rfl
        have s13 := slotE (hNew 13 36 _ y13 rfl rfl (by kernel_rfl) hy13)
        rw [(hI.ok 13 y13 hy13).f _ rfl] at s13
        refine aCall rfl rfl (w1 := wc) ?_ ((HF3.out wc hgc).mono fun e w' ⟨ux, he, hlx, hg⟩ => ⟨_, he, _, rfl, (hI.next hg).val hn (by decide) (qlG rfl rfl rfl (hlx.le hI.gr.size))⟩)
        go_simp
      · obtain rfl := Option.some.inj (show some _ = some o from ho)
        refine aVal rfl rfl (v := .pointer (some ⟨wc.heap.size, 0, none⟩)) (w' := wc.alloc (.cells (lcells fun _ => ⟨none, 0, 0⟩) 24)) ?_ ⟨_, rfl, hI.new hn (by decide) rfl rfl (fun _ _ => qlN rfl rfl rfl)⟩
        go_simp
      · obtain rfl := Option.some.inj (show some _ = some o from ho)
        refine aVal rfl rfl (v := .pointer (some ⟨wc.heap.size, 0, none⟩)) (w' := wc.alloc (.cells (lcells fun _ => ⟨none, 0, 0⟩) 24)) ?_ ⟨_, rfl, hI.new hn (by decide) rfl rfl (fun _ _ => qlN rfl rfl rfl)⟩
        go_simp
      · obtain rfl := Option.some.inj (show some _ = some o from ho)
        refine aVal rfl rfl (v := .pointer (some ⟨wc.heap.size, 0, none⟩)) (w' := wc.alloc (.cells (lcells fun _ => ⟨none, 0, 0⟩) 24)) ?_ ⟨_, rfl, hI.new hn (by decide) rfl rfl (fun _ _ => qlN rfl rfl rfl)⟩
        go_simp
      · obtain rfl := Option.some.inj (show some _ = some o from ho)
        obtain ⟨y15, hy15⟩ := hdep ⟨15, .data⟩ (by simp) rfl
        obtain ⟨P, rfl, hP1, hP2⟩ := hI.at_new (a := 15) (k := 18) (s := 4) (by decide) hn hy15
        have s15 := slotE (hNew 15 9 _ _ rfl rfl (by kernel_rfl) hy15)
        obtain ⟨y4, hy4⟩ := hdep ⟨4, .data⟩ (by simp) rfl
        obtain ⟨u4, rfl, hl4⟩ := (hI.ok 4 y4 hy4).g _ rfl
        have s4 := slotE (hNew 4 27 _ _ rfl rfl (by kernel_rfl) hy4)
        have hz : LBox wc P Z3 := ⟨hP2⟩
        obtain ⟨c0, c1, c2, c3, c4, c5, c6, c7⟩ := hz.zero
        have f0 := unfrozen_of_block hz.box 0
        have f1 := unfrozen_of_block hz.box 1
        have f2 := unfrozen_of_block hz.box 2
        have f3 := unfrozen_of_block hz.box 3
        have f4 := unfrozen_of_block hz.box 4
        have f5 := unfrozen_of_block hz.box 5
        have f6 := unfrozen_of_block hz.box 6
        have f7 := unfrozen_of_block hz.box 7
        refine aSkip rfl rfl (w' := putCells wc P 0 (lcells u4).toList) ?_ ⟨_, rfl, hI.putA (a := 15) (k := 18) (s := 4) (c := lcells u4) (by decide) hn (by decide) (by decide) (by decide) hy15 hy4 rfl (fun _ => qlN rfl rfl rfl)⟩
        clear hz hI
        go_simp
        rfl
      · obtain rfl := Option.some.inj (show some _ = some o from ho)
        obtain ⟨y16, hy16⟩ := hdep ⟨16, .data⟩ (by simp) rfl
        obtain ⟨P, rfl, hP1, hP2⟩ := hI.at_new (a := 16) (k := 19) (s := 9) (by decide) hn hy16
        have s16 := slotE (hNew 16 10 _ _ rfl rfl (by kernel_rfl) hy16)
        obtain ⟨y9, hy9⟩ := hdep ⟨9, .data⟩ (by simp) rfl
        obtain ⟨u9, rfl, hl9⟩ := (hI.ok 9 y9 hy9).g _ rfl
        have s9 := slotE (hNew 9 32 _ _ rfl rfl (by kernel_rfl) hy9)
        have hz : LBox wc P Z3 := ⟨hP2⟩
        obtain ⟨c0, c1, c2, c3, c4, c5, c6, c7⟩ := hz.zero
        have f0 := unfrozen_of_block hz.box 0
        have f1 := unfrozen_of_block hz.box 1
        have f2 := unfrozen_of_block hz.box 2
        have f3 := unfrozen_of_block hz.box 3
        have f4 := unfrozen_of_block hz.box 4
        have f5 := unfrozen_of_block hz.box 5
        have f6 := unfrozen_of_block hz.box 6
        have f7 := unfrozen_of_block hz.box 7
        refine aSkip rfl rfl (w' := putCells wc P 0 (lcells u9).toList) ?_ ⟨_, rfl, hI.putA (a := 16) (k := 19) (s := 9) (c := lcells u9) (by decide) hn (by decide) (by decide) (by decide) hy16 hy9 rfl (fun _ => qlN rfl rfl rfl)⟩
        clear hz hI
        go_simp
        rfl
      · obtain rfl := Option.some.inj (show some _ = some o from ho)
        obtain ⟨y17, hy17⟩ := hdep ⟨17, .data⟩ (by simp) rfl
        obtain ⟨P, rfl, hP1, hP2⟩ := hI.at_new (a := 17) (k := 20) (s := 14) (by decide) hn hy17
        have s17 := slotE (hNew 17 11 _ _ rfl rfl (by kernel_rfl) hy17)
        obtain ⟨y14, hy14⟩ := hdep ⟨14, .data⟩ (by simp) rfl
        obtain ⟨u14, rfl, hl14⟩ := (hI.ok 14 y14 hy14).g _ rfl
        have s14 := slotE (hNew 14 37 _ _ rfl rfl (by kernel_rfl) hy14)
        have hz : LBox wc P Z3 := ⟨hP2⟩
        obtain ⟨c0, c1, c2, c3, c4, c5, c6, c7⟩ := hz.zero
        have f0 := unfrozen_of_block hz.box 0
        have f1 := unfrozen_of_block hz.box 1
        have f2 := unfrozen_of_block hz.box 2
        have f3 := unfrozen_of_block hz.box 3
        have f4 := unfrozen_of_block hz.box 4
        have f5 := unfrozen_of_block hz.box 5
        have f6 := unfrozen_of_block hz.box 6
        have f7 := unfrozen_of_block hz.box 7
        refine aSkip rfl rfl (w' := putCells wc P 0 (lcells u14).toList) ?_ ⟨_, rfl, hI.putA (a := 17) (k := 20) (s := 14) (c := lcells u14) (by decide) hn (by decide) (by decide) (by decide) hy17 hy14 rfl (fun _ => qlN rfl rfl rfl)⟩
        clear hz hI
        go_simp
        rfl
    · intro vals wc hall hI
      refine NoPanic.normal ?_
      obtain ⟨y0, h0⟩ := hall 0 (by decide)
      obtain ⟨y1, h1⟩ := hall 1 (by decide)
      obtain ⟨y2, h2⟩ := hall 2 (by decide)
      obtain ⟨y3, h3⟩ := hall 3 (by decide)
      obtain ⟨y4, h4⟩ := hall 4 (by decide)
      obtain ⟨y5, h5⟩ := hall 5 (by decide)
      obtain ⟨y6, h6⟩ := hall 6 (by decide)
      obtain ⟨y7, h7⟩ := hall 7 (by decide)
      obtain ⟨y8, h8⟩ := hall 8 (by decide)
      obtain ⟨y9, h9⟩ := hall 9 (by decide)
      obtain ⟨y10, h10⟩ := hall 10 (by decide)
      obtain ⟨y11, h11⟩ := hall 11 (by decide)
      obtain ⟨y12, h12⟩ := hall 12 (by decide)
      obtain ⟨y13, h13⟩ := hall 13 (by decide)
      obtain ⟨y14, h14⟩ := hall 14 (by decide)
      obtain ⟨y15, h15⟩ := hall 15 (by decide)
      obtain ⟨y16, h16⟩ := hall 16 (by decide)
      obtain ⟨y17, h17⟩ := hall 17 (by decide)
      obtain ⟨y18, h18⟩ := hall 18 (by decide)
      obtain ⟨y19, h19⟩ := hall 19 (by decide)
      obtain ⟨y20, h20⟩ := hall 20 (by decide)
      obtain ⟨u4, rfl, hl4⟩ := (hI.ok 4 y4 h4).g _ rfl
      obtain ⟨P0, rfl, -, hb0⟩ := hI.at_full (a := 15) (k := 18) (s := 4) (by decide) h18 h4 h15
      have HB0 : Hid (LBox wc P0 u4) := Lib.hid ⟨hb0⟩
      have HN0 := Lib.hid hl4
      obtain ⟨u9, rfl, hl9⟩ := (hI.ok 9 y9 h9).g _ rfl
      obtain ⟨P1, rfl, -, hb1⟩ := hI.at_full (a := 16) (k := 19) (s := 9) (by decide) h19 h9 h16
      have HB1 : Hid (LBox wc P1 u9) := Lib.hid ⟨hb1⟩
      have HN1 := Lib.hid hl9
      obtain ⟨u14, rfl, hl14⟩ := (hI.ok 14 y14 h14).g _ rfl
      obtain ⟨P2, rfl, -, hb2⟩ := hI.at_full (a := 17) (k := 20) (s := 14) (by decide) h20 h14 h17
      have HB2 : Hid (LBox wc P2 u14) := Lib.hid ⟨hb2⟩
      have HN2 := Lib.hid hl14
      have HGC := Lib.hid (HG2.out.trans hI.gr)
      clear hb0 hb1 hb2 hl4 hl9 hl14
      simp only [putAll, putV, h0, h1, h2, h3, h4, h5, h6, h7, h8, h9, h10, h11, h12, h13, h14, h15, h16, h17, h18, h19, h20]
      clear hI hall h0 h1 h2 h3 h4 h5 h6 h7 h8 h9 h10 h11 h12 h13 h14 h15 h16 h17 h18 h19 h20
      simp only [Act.put, List.setIfInBounds_toArray, List.set_cons_zero, List.set_cons_succ]
      go_wp2_with fail
      go_meet
      exact ⟨P0, P1, P2, u4, u9, u14, rfl, rfl, rfl, Lib.hid ⟨HB0.out, HB1.out, HB2.out, HN0.out, HN1.out, HN2.out, HGC.out⟩⟩
  case rest =>
    obtain ⟨Pa, Pb, Pc, ua, ub, uc, rfl, rfl, rfl, hst⟩ := hcut
    rename World => w3
    obtain ⟨p0, p1, p2, p3, p4, p5, p6, p7⟩ := hst.out.1.all
    obtain ⟨q0, q1, q2, q3, q4, q5, q6, q7⟩ := hst.out.2.1.all
    go_wp2_with fail
    refine (HJ1.out ua ub w3 hst.out.2.2.2.1.lv hst.out.2.2.2.2.1.lv).mono ?_
    rintro e w4 ⟨ux, rfl, hlx, g4⟩
    clear p0 p1 p2 p3 p4 p5 p6 p7 q0 q1 q2 q3 q4 q5 q6 q7
    have hz : LBox (w4.alloc (.cells (lcells fun _ => ⟨none, 0, 0⟩) 24)) w4.heap.size Z3 := ⟨heap_alloc _ _ _⟩
    obtain ⟨c0, c1, c2, c3, c4, c5, c6, c7⟩ := hz.zero
    have f0 := unfrozen_of_block hz.box 0
    have f1 := unfrozen_of_block hz.box 1
    have f2 := unfrozen_of_block hz.box 2
    have f3 := unfrozen_of_block hz.box 3
    have f4 := unfrozen_of_block hz.box 4
    have f5 := unfrozen_of_block hz.box 5
    have f6 := unfrozen_of_block hz.box 6
    have f7 := unfrozen_of_block hz.box 7
    go_upto_region 7 with (fail)
    clear c0 c1 c2 c3 c4 c5 c6 c7 f0 f1 f2 f3 f4 f5 f6 f7 hz
    have hb5 : LBox (w4.alloc (.cells (lcells ux) 24)) w4.heap.size ux := ⟨heap_alloc _ _ _⟩
    have g5 : Gr w4 (w4.alloc (.cells (lcells ux) 24)) := (Gr.refl w4).alloc _
    obtain ⟨w5, hw5⟩ : ∃ x, x = (w4.alloc (.cells (lcells ux) 24)) := ⟨_, rfl⟩
    rw [← hw5] at hb5 g5 ⊢
    obtain ⟨P, hP⟩ : ∃ P, P = w4.heap.size := ⟨_, rfl⟩
    rw [← hP] at hb5 ⊢
    obtain ⟨hba, hbb, hbc, hna, hnb, hnc, hgw⟩ := hst.out
    have g35 := g4.trans g5
    have hW5 := (hgw.trans g35)
    have hlt : Pa < P ∧ Pb < P ∧ Pc < P ∧ W.heap.size ≤ P := by
      have e1 := hba.lt
      have e2 := hbb.lt
      have e3 := hbc.lt
      have e4 := g4.size
      have e5 := hgw.size
      omega
    have HLT := Lib.hid hlt
    have hst5 : Hid (LBox w5 Pa ua ∧ LBox w5 Pb ub ∧ LBox w5 Pc uc ∧ LN w5 w2.heap.size ua a ∧ LN w5 w2.heap.size ub b ∧ LN w5 w2.heap.size uc c ∧ Gr W w5) := Lib.hid ⟨hba.gr g35, hbb.gr g35, hbc.gr g35, hna.keeps (Keeps.of_gr g35), hnb.keeps (Keeps.of_gr g35), hnc.keeps (Keeps.of_gr g35), hW5⟩
    have HBX := Lib.hid hb5
    have HNX := Lib.hid (hlx.keeps (Keeps.of_gr g5))
    clear hba hbb hbc hna hnb hnc hgw g35 hW5 hlt hst hw5 hP g4 g5 hlx hb5
    obtain ⟨p0, p1, p2, p3, p4, p5, p6, p7⟩ := HBX.out.all
    obtain ⟨q0, q1, q2, q3, q4, q5, q6, q7⟩ := hst5.out.2.2.1.all
    go_wp2_with fail
    refine (HJ2.out ux uc w5 HNX.out.lv hst5.out.2.2.2.2.2.1.lv).mono ?_
    rintro e w6 ⟨uy, rfl, hly, g6⟩
    clear p0 p1 p2 p3 p4 p5 p6 p7 q0 q1 q2 q3 q4 q5 q6 q7
    have hz := HBX.out.gr g6
    obtain ⟨c0, c1, c2, c3, c4, c5, c6, c7⟩ := hz.all
    have f0 := unfrozen_of_block hz.box 0
    have f1 := unfrozen_of_block hz.box 1
    have f2 := unfrozen_of_block hz.box 2
    have f3 := unfrozen_of_block hz.box 3
    have f4 := unfrozen_of_block hz.box 4
    have f5 := unfrozen_of_block hz.box 5
    have f6 := unfrozen_of_block hz.box 6
    have f7 := unfrozen_of_block hz.box 7
    have HLY := Lib.hid hly
    have HG6 := Lib.hid g6
    clear hz hly g6
    go_upto_region 8 with (fail)
    clear c0 c1 c2 c3 c4 c5 c6 c7 f0 f1 f2 f3 f4 f5 f6 f7
    change Code.wp Try.prog _ _ _ (putCells w6 P 0 (lcells uy).toList)
    obtain ⟨w7, hw7, hbx7, hk7, hfar7⟩ : ∃ x, x = putCells w6 P 0 (lcells uy).toList ∧ LBox x P uy ∧ Keeps btL w6 x ∧ ∀ b, b ≠ P → x.heap[b]? = w6.heap[b]? := ⟨_, rfl, putL8 (HBX.out.gr HG6.out) uy, putCells_keeps (HBX.out.gr HG6.out).box (by decide) _ _, fun b hb => putCells_far _ _ _ _ _ hb⟩
    have hgw7 : Gr W w7 := by rw [hw7]; exact Gr.putCells HLT.out.2.2.2 _ _ (hst5.out.2.2.2.2.2.2.trans HG6.out)
    rw [← hw7]
    obtain ⟨hba, hbb, hbc, hna, hnb, hnc, hgw⟩ := hst5.out
    have k57 := (Keeps.of_gr (bt := btL) HG6.out).trans hk7
    have hst7 : Hid (LBox w7 Pa ua ∧ LBox w7 Pb ub ∧ LBox w7 Pc uc ∧ LN w7 w2.heap.size ua a ∧ LN w7 w2.heap.size ub b ∧ LN w7 w2.heap.size uc c ∧ Gr W w7) := Lib.hid ⟨(hba.gr HG6.out).keep (hfar7 _ (by have := HLT.out; omega)), (hbb.gr HG6.out).keep (hfar7 _ (by have := HLT.out; omega)), (hbc.gr HG6.out).keep (hfar7 _ (by have := HLT.out; omega)), hna.keeps k57, hnb.keeps k57, hnc.keeps k57, hgw7⟩
    have HBY := Lib.hid hbx7
    have HNY := Lib.hid (HLY.out.keeps hk7)
    clear hba hbb hbc hna hnb hnc hgw k57 hst5 hbx7 hk7 hfar7 hgw7 hw7 HLY HG6 HNX HBX
    obtain ⟨p0, p1, p2, p3, p4, p5, p6, p7⟩ := hst7.out.2.1.all
    obtain ⟨q0, q1, q2, q3, q4, q5, q6, q7⟩ := hst7.out.2.2.1.all
    go_wp2_with fail
    refine (HJ3.out ub uc w7 hst7.out.2.2.2.2.1.lv hst7.out.2.2.2.2.2.1.lv).mono ?_
    rintro e w8 ⟨uz, rfl, hlz, g8⟩
    clear p0 p1 p2 p3 p4 p5 p6 p7 q0 q1 q2 q3 q4 q5 q6 q7
    have hz : LBox (w8.alloc (.cells (lcells fun _ => ⟨none, 0, 0⟩) 24)) w8.heap.size Z3 := ⟨heap_alloc _ _ _⟩
    obtain ⟨c0, c1, c2, c3, c4, c5, c6, c7⟩ := hz.zero
    have f0 := unfrozen_of_block hz.box 0
    have f1 := unfrozen_of_block hz.box 1
    have f2 := unfrozen_of_block hz.box 2
    have f3 := unfrozen_of_block hz.box 3
    have f4 := unfrozen_of_block hz.box 4
    have f5 := unfrozen_of_block hz.box 5
    have f6 := unfrozen_of_block hz.box 6
    have f7 := unfrozen_of_block hz.box 7
    go_upto_region 9 with (fail)
    clear c0 c1 c2 c3 c4 c5 c6 c7 f0 f1 f2 f3 f4 f5 f6 f7 hz
    have hb9 : LBox (w8.alloc (.cells (lcells uz) 24)) w8.heap.size uz := ⟨heap_alloc _ _ _⟩
    have g9 : Gr w8 (w8.alloc (.cells (lcells uz) 24)) := (Gr.refl w8).alloc _
    obtain ⟨w9, hw9⟩ : ∃ x, x = (w8.alloc (.cells (lcells uz) 24)) := ⟨_, rfl⟩
    rw [← hw9] at hb9 g9 ⊢
    obtain ⟨R, hR⟩ : ∃ P, P = w8.heap.size := ⟨_, rfl⟩
    rw [← hR] at hb9 ⊢
    have HRP : Hid (Pa < R ∧ P < R ∧ W.heap.size ≤ R) := Lib.hid (by
      have e1 := HLT.out
      have e2 := HBY.out.lt
      have e3 := g8.size
      omega)
    have g79 := g8.trans g9
    have HBA := Lib.hid (hst7.out.1.gr g79)
    have HNA9 := Lib.hid (hst7.out.2.2.2.1.keeps (Keeps.of_gr g79))
    have HG9 := Lib.hid (hst7.out.2.2.2.2.2.2.trans g79)
    have HBY9 := Lib.hid (HBY.out.gr g79)
    have HNY9 := Lib.hid (HNY.out.keeps (Keeps.of_gr g79))
    have HBZ := Lib.hid hb9
    have HNZ := Lib.hid (hlz.keeps (Keeps.of_gr g9))
    clear g79 hst7 HBY HNY hlz g8 g9 hw9 hR hb9
    obtain ⟨p0, p1, p2, p3, p4, p5, p6, p7⟩ := HBA.out.all
    obtain ⟨q0, q1, q2, q3, q4, q5, q6, q7⟩ := HBZ.out.all
    go_wp2_with fail
    refine (HJ4.out ua uz w9 HNA9.out.lv HNZ.out.lv).mono ?_
    rintro e w10 ⟨ut, rfl, hlt, g10⟩
    clear p0 p1 p2 p3 p4 p5 p6 p7 q0 q1 q2 q3 q4 q5 q6 q7
    have hz := HBZ.out.gr g10
    obtain ⟨c0, c1, c2, c3, c4, c5, c6, c7⟩ := hz.all
    have f0 := unfrozen_of_block hz.box 0
    have f1 := unfrozen_of_block hz.box 1
    have f2 := unfrozen_of_block hz.box 2
    have f3 := unfrozen_of_block hz.box 3
    have f4 := unfrozen_of_block hz.box 4
    have f5 := unfrozen_of_block hz.box 5
    have f6 := unfrozen_of_block hz.box 6
    have f7 := unfrozen_of_block hz.box 7
    have HLT2 := Lib.hid hlt
    have HG10 := Lib.hid g10
    clear hz hlt g10
    go_upto_region 10 with (fail)
    clear c0 c1 c2 c3 c4 c5 c6 c7 f0 f1 f2 f3 f4 f5 f6 f7
    change Code.wp Try.prog _ _ _ (putCells w10 R 0 (lcells ut).toList)
    obtain ⟨w11, hw11, hbx, hk, hfar⟩ : ∃ x, x = putCells w10 R 0 (lcells ut).toList ∧ LBox x R ut ∧ Keeps btL w10 x ∧ ∀ b, b ≠ R → x.heap[b]? = w10.heap[b]? := ⟨_, rfl, putL8 (HBZ.out.gr HG10.out) ut, putCells_keeps (HBZ.out.gr HG10.out).box (by decide) _ _, fun b hb => putCells_far _ _ _ _ _ hb⟩
    have hgw : Gr W w11 := by rw [hw11]; exact Gr.putCells HRP.out.2.2 _ _ (HG9.out.trans HG10.out)
    rw [← hw11]
    have HYC := Lib.hid ((HBY9.out.gr HG10.out).keep (hfar _ (by have := HRP.out; omega))).lc
    have HTC := Lib.hid hbx.lc
    have HLY := Lib.hid (HNY9.out.keeps ((Keeps.of_gr (bt := btL) HG10.out).trans hk)).lv
    have HLZ := Lib.hid (HLT2.out.keeps hk).lv
    have HGF := Lib.hid hgw
    have HSF := Lib.hid (fun w1 (g : Gr w11 w1) => rsame9_any uy ut X2 Y2 w1 (HLY.out.gr g) (HLZ.out.gr g))
    rw [HSM.out] at HSF
    clear hbx hk hfar hgw hw11
    obtain ⟨p0, p1, p2, p3, p4, p5, p6, p7⟩ := HYC.out
    obtain ⟨q0, q1, q2, q3, q4, q5, q6, q7⟩ := HTC.out
    go_wp2_with fail
    refine (HSF.out w11 (Gr.refl _)).mono ?_
    rintro e w12 ⟨rfl, g12⟩
    have HGE := Lib.hid g12
    clear g12 p0 p1 p2 p3 p4 p5 p6 p7 q0 q1 q2 q3 q4 q5 q6 q7
    go_wp2_with fail
    go_ret
    exact ⟨rfl, HG.out.trans (HGF.out.trans HGE.out)⟩
end Go.Proofs.Ytlgljanofppleaa
