/- The law CutJoins, its first half. -/
import Derived.Test.YtlgljanofppleaaCutX
namespace Go.Proofs.Ytlgljanofppleaa
open Go.RowKit Go.Joins
set_option linter.unusedSimpArgs false
set_option linter.unusedVariables false
theorem LV.cells {w : World} {u u' : Nat → S3} {l : LG} (h : LV w u l) (e : lcells u = lcells u') : LV w u' l := fun i hi => by
  have q := lcells_at u hi
  rw [e, lcells_at u' hi] at q
  rw [Option.some.inj q]
  exact h i hi
theorem CanL.jn {a b : LG} (ha : CanL a) (hb : CanL b) : CanL (jnL a b) := fun i t hi ht => by
  unfold jnL at ht
  split at ht
  · exact hb i t hi ht
  · exact ha i t hi ht
theorem FitQ.jn {a b : LG} (ha : FitQ a) (hb : FitQ b) : FitQ (jnL a b) := fun i t hi ht => by
  unfold jnL at ht
  split at ht
  · exact hb i t hi ht
  · exact ha i t hi ht
theorem joinR_of {a b : LG} (ha : checkE a = 0) (hb : checkE b = 0) (h : compat a b) : joinR a b = (0, jnL a b) := by
  unfold joinR
  rw [if_pos ha, if_pos hb, if_pos]
  exact okJ_iff.2 fun i hi => by rw [h i hi]; exact sameL_self _
theorem joinR_ok {a b : LG} (ca : CanL a) (cb : CanL b) (h : (joinR a b).1 = 0) : checkE a = 0 ∧ checkE b = 0 ∧ compat a b ∧ (joinR a b).2 = jnL a b := by
  by_cases h1 : checkE a = 0
  · by_cases h2 : checkE b = 0
    · by_cases h3 : okJ a b = true
      · have hc : compat a b := fun i hi => (sameL_can (fun t ht => ca i t hi (List.mem_of_mem_take ht)) (fun t ht => cb i t hi (List.mem_of_mem_take ht))).1 (okJ_iff.1 h3 i hi)
        exact ⟨h1, h2, hc, by rw [joinR_of h1 h2 hc]⟩
      · have e : joinR a b = (91, nilL) := by unfold joinR; rw [if_pos h1, if_pos h2, if_neg h3]
        rw [e] at h
        have h : (91 : Nat) = 0 := h
        omega
    · have e : joinR a b = (checkE b, nilL) := by unfold joinR; rw [if_pos h1, if_neg h2]
      rw [e] at h
      exact absurd h h2
  · have e : joinR a b = (checkE a, nilL) := by unfold joinR; rw [if_neg h1]
    rw [e] at h
    exact absurd h h1
theorem join_facts {a b J : LG} {ej : Nat} (hJ : J = (joinR a b).2) (hej : ej = (joinR a b).1) (hqa : FitQ a) (hqb : FitQ b) (hfa : FitC a) (hfb : FitC b) (ca : CanL a) (cb : CanL b) (h : ej = 0) :
    checkE J = 0 ∧ FitQ J ∧ FitC J ∧ CanL J ∧ (joinR b a).1 = 0 ∧ sameLG (joinR b a).2 J = true ∧ joinR J J = (0, J) ∧ vcells (jn (sizeV a) (sizeV b)) = vcells (sizeV J) := by
  rw [hej] at h
  obtain ⟨h1, h2, h3, h4⟩ := joinR_ok ca cb h
  rw [h4] at hJ
  subst hJ
  have h5 : checkE (jnL a b) = 0 := okL_iff.2 (okL_jn (okL_iff.1 h1) (okL_iff.1 h2) h3)
  have h6 := joinR_of h2 h1 (compat_symm h3)
  refine ⟨h5, hqa.jn hqb, fitC_jn hfa hfb, ca.jn cb, by rw [h6], ?_, ?_, ?_⟩
  · rw [h6]
    exact sameLG_of fun i hi => (jnL_comm h3 hi).symm
  · rw [joinR_of h5 h5 (fun _ _ => rfl), jnL_self]
  · exact vcells_congr fun i hi => by
      show max _ _ = _
      unfold sizeV
      rw [jnL_size]
theorem equal_vv (f : Nat → Nat) (w : World) : (Op.equalIn 10000 34 (.agg (vcells f)) (.agg (vcells f))).run Try.prog w = .ok true w := by
  rw [equal_v, eqB_self]
theorem jtup_cells {u u' : Nat → S3} {e : Nat} (h : jtup u e = jtup u' e) : lcells u = lcells u' := by
  injection h with q
  have q2 : some (Value.agg (lcells u)) = some (Value.agg (lcells u')) := congrArg (fun (z : Array Value) => z[0]?) q
  injection q2 with q2
  injection q2
set_option maxRecDepth 100000 in
set_option maxHeartbeats 4000000 in
theorem joins9_law (u v : Nat → S3) (a b : LG) (w : World) (ha : LV w u a) (hb : LV w v b) (hfa : FitL a) (hfb : FitL b) (hna : CanL a) (hnb : CanL b) :
    Calls Try.prog 3 #[.agg (lcells u), .agg (lcells v)] w fun e w' => e = .returned (.bool true) ∧ Gr w w' := by
  obtain ⟨W, hW, hg, hsz, hA, hB⟩ := boxesLL u v w
  have HA := Lib.hid hA
  have HB := Lib.hid hB
  have HG := Lib.hid hg
  have HLA := Lib.hid (ha.gr hg)
  have HLB := Lib.hid (hb.gr hg)
  obtain ⟨J, hJ⟩ : ∃ J, J = (joinR a b).2 := ⟨_, rfl⟩
  obtain ⟨ej, hej⟩ : ∃ J, J = (joinR a b).1 := ⟨_, rfl⟩
  have HC1 := Lib.hid (fun w1 (g : Gr W w1) => rcopy9_any u a w1 ((ha.gr hg).gr g) hfa.c)
  have HC2 := Lib.hid (fun w1 (g : Gr W w1) => rcopy9_any v b w1 ((hb.gr hg).gr g) hfb.c)
  have HJN := Lib.hid (fun u1 u2 w1 (h1 : LV w1 u1 a) (h2 : LV w1 u2 b) => join9_any u1 u2 a b w1 h1 h2 hfa.q hfb.q hfa.c hfb.c hna hnb)
  have HRJ := Lib.hid (fun w1 (g : Gr W w1) => rjoin9_any u v a b w1 ((ha.gr hg).gr g) ((hb.gr hg).gr g) hfa.q hfb.q hfa.c hfb.c)
  rw [← hJ, ← hej] at HJN HRJ
  have HJF := Lib.hid (join_facts hJ hej hfa.q hfb.q hfa.c hfb.c hna hnb)
  have HJB := Lib.hid (fun u1 u2 w1 (h1 : LV w1 u1 b) (h2 : LV w1 u2 a) => join9_any u1 u2 b a w1 h1 h2 hfb.q hfa.q hfb.c hfa.c hnb hna)
  clear ha hb hg hsz hA hB hJ hej hfa hfb hna hnb
  go_enter Try.func3, Try.ntmps3
  go_upto_region 1 with (fail)
  rw [← hW]
  clear hW
  go_wp2_with fail
  refine (awake9_any W).mono ?_
  rintro e w1 ⟨rfl, g1⟩
  have HG1 := Lib.hid g1
  clear g1
  go_upto_region 3 with (fail)
  go_cut [5, 6] (fun s5 s6 wx => ∃ P uj, s5 = .pointer (some ⟨P, 0, none⟩) ∧ s6 = .int .i64 (ej : Int) ∧ LBox wx P uj ∧ LV wx uj J ∧ Gr W wx)
  case first =>
    refine wp_region_noPanic ?_
    refine iRegionA (IJ w1 u v a b J ej) (by kernel_rfl) (by kernel_rfl) ij_start ?_ ?_
    · intro i o ho vals wc A hI hn hdep hOld hNew
      have hi : i < 11 := (List.getElem?_eq_some_iff.1 ho).1
      have hgc := HG1.out.trans hI.gr
      obtain ⟨p0, p1, p2, p3, p4, p5, p6, p7⟩ := (HA.out.gr hgc).all
      obtain ⟨q0, q1, q2, q3, q4, q5, q6, q7⟩ := (HB.out.gr hgc).all
      have e2 : A.tmps[2]?.getD undef = .pointer (some ⟨w.heap.size, 0, none⟩) := slotE (hOld 2 (by kernel_rfl))
      have e3 : A.tmps[3]?.getD undef = .pointer (some ⟨w.heap.size + 1, 0, none⟩) := slotE (hOld 3 (by kernel_rfl))
      obtain rfl | rfl | rfl | rfl | rfl | rfl | rfl | rfl | rfl | rfl | rfl : i = 0 ∨ i = 1 ∨ i = 2 ∨ i = 3 ∨ i = 4 ∨ i = 5 ∨ i = 6 ∨ i = 7 ∨ i = 8 ∨ i = 9 ∨ i = 10 := by omega
      · obtain rfl := Option.some.inj (show some _ = some o from ho)
        refine aVal rfl rfl (v := .agg (lcells u)) (w' := wc) ?_ ⟨_, rfl, hI.up0⟩
        go_simp
      · obtain rfl := Option.some.inj (show some _ = some o from ho)
        obtain ⟨y0, hy0⟩ := hdep ⟨0, .data⟩ (by simp) rfl
        have s0 := slotE (hNew 0 15 _ y0 rfl rfl (by kernel_rfl) hy0)
        rw [hI.x0 y0 hy0] at s0
        refine aCall rfl rfl (w1 := wc) ?_ ((HC1.out wc hgc).mono fun e w' ⟨u', he, hl, hg⟩ => ⟨_, he, _, rfl, (hI.next hg).up1 hl.lv⟩)
        go_simp
      · obtain rfl := Option.some.inj (show some _ = some o from ho)
        refine aVal rfl rfl (v := .agg (lcells v)) (w' := wc) ?_ ⟨_, rfl, hI.up2⟩
        go_simp
      · obtain rfl := Option.some.inj (show some _ = some o from ho)
        obtain ⟨y0, hy0⟩ := hdep ⟨2, .data⟩ (by simp) rfl
        have s0 := slotE (hNew 2 17 _ y0 rfl rfl (by kernel_rfl) hy0)
        rw [hI.x2 y0 hy0] at s0
        refine aCall rfl rfl (w1 := wc) ?_ ((HC2.out wc hgc).mono fun e w' ⟨u', he, hl, hg⟩ => ⟨_, he, _, rfl, (hI.next hg).up3 hl.lv⟩)
        go_simp
      · obtain rfl := Option.some.inj (show some _ = some o from ho)
        obtain ⟨y0, hy0⟩ := hdep ⟨1, .data⟩ (by simp) rfl
        obtain ⟨y1, hy1⟩ := hdep ⟨3, .data⟩ (by simp) rfl
        obtain ⟨u1, rfl, hl1⟩ := hI.x1 hn y0 hy0
        obtain ⟨u2, rfl, hl2⟩ := hI.x3 hn y1 hy1
        have s0 := slotE (hNew 1 16 _ _ rfl rfl (by kernel_rfl) hy0)
        have s1 := slotE (hNew 3 18 _ _ rfl rfl (by kernel_rfl) hy1)
        refine aCall rfl rfl (w1 := wc) ?_ ((HJN.out u1 u2 wc hl1 hl2).mono fun e w' ⟨u', he, hl, hg⟩ => ⟨_, he, _, rfl, (hI.next hg).up4 hn (fun i hi => (hl i hi).le hI.gr.size)⟩)
        go_simp
      · obtain rfl := Option.some.inj (show some _ = some o from ho)
        obtain ⟨y0, hy0⟩ := hdep ⟨4, .data⟩ (by simp) rfl
        have s0 := slotE (hNew 4 19 _ y0 rfl rfl (by kernel_rfl) hy0)
        refine aVal rfl rfl (v := y0) (w' := wc) ?_ ⟨_, rfl, hI.up5 hy0⟩
        go_simp
      · obtain rfl := Option.some.inj (show some _ = some o from ho)
        obtain ⟨y0, hy0⟩ := hdep ⟨5, .data⟩ (by simp) rfl
        have h4 := hI.x5 y0 hy0
        obtain ⟨u', rfl, -⟩ := hI.x4 y0 h4
        have s0 := slotE (hNew 5 14 _ _ rfl rfl (by kernel_rfl) hy0)
        refine aVal rfl rfl (v := .agg (lcells u')) (w' := wc) ?_ ⟨_, rfl, hI.up6 h4⟩
        go_simp
      · obtain rfl := Option.some.inj (show some _ = some o from ho)
        obtain ⟨y0, hy0⟩ := hdep ⟨5, .data⟩ (by simp) rfl
        have h4 := hI.x5 y0 hy0
        obtain ⟨u', rfl, -⟩ := hI.x4 y0 h4
        have s0 := slotE (hNew 5 14 _ _ rfl rfl (by kernel_rfl) hy0)
        refine aVal rfl rfl (v := .int .i64 (ej : Int)) (w' := wc) ?_ ⟨_, rfl, hI.up7⟩
        go_simp
      · obtain rfl := Option.some.inj (show some _ = some o from ho)
        refine aVal rfl rfl (v := .pointer (some ⟨wc.heap.size, 0, none⟩)) (w' := wc.alloc (.cells (lcells fun _ => ⟨none, 0, 0⟩) 24)) ?_ ⟨_, rfl, hI.up8 hn⟩
        go_simp
      · obtain rfl := Option.some.inj (show some _ = some o from ho)
        obtain ⟨y0, hy0⟩ := hdep ⟨8, .data⟩ (by simp) rfl
        obtain ⟨y1, hy1⟩ := hdep ⟨6, .data⟩ (by simp) rfl
        obtain ⟨P, rfl, hP1, hP2, -⟩ := hI.x8 y0 hy0
        obtain ⟨u', rfl, h4⟩ := hI.x6 y1 hy1
        have hz := hP2 hn
        have s0 := slotE (hNew 8 5 _ _ rfl rfl (by kernel_rfl) hy0)
        have s1 := slotE (hNew 6 20 _ _ rfl rfl (by kernel_rfl) hy1)
        obtain ⟨c0, c1, c2, c3, c4, c5, c6, c7⟩ := hz.zero
        have f0 := unfrozen_of_block hz.box 0
        have f1 := unfrozen_of_block hz.box 1
        have f2 := unfrozen_of_block hz.box 2
        have f3 := unfrozen_of_block hz.box 3
        have f4 := unfrozen_of_block hz.box 4
        have f5 := unfrozen_of_block hz.box 5
        have f6 := unfrozen_of_block hz.box 6
        have f7 := unfrozen_of_block hz.box 7
        refine aSkip rfl rfl (w' := putCells wc P 0 (lcells u').toList) ?_ ⟨_, rfl, hI.up9 hy0 hn h4⟩
        clear hz hI
        go_simp
        rfl
      · obtain rfl := Option.some.inj (show some _ = some o from ho)
        obtain ⟨y0, hy0⟩ := hdep ⟨7, .data⟩ (by simp) rfl
        have s0 := slotE (hNew 7 21 _ y0 rfl rfl (by kernel_rfl) hy0)
        rw [hI.x7 y0 hy0] at s0
        refine aVal rfl rfl (v := .int .i64 (ej : Int)) (w' := wc) ?_ ⟨_, rfl, hI.up10⟩
        go_simp
    · intro vals wc hall hI
      refine NoPanic.normal ?_
      obtain ⟨y0, h0⟩ := hall 0 (by decide)
      obtain ⟨y1, h1⟩ := hall 1 (by decide)
      obtain ⟨y2, h2⟩ := hall 2 (by decide)
      obtain ⟨y3, h3⟩ := hall 3 (by decide)
      obtain ⟨y4, h4⟩ := hall 4 (by decide)
      obtain ⟨y5, h5⟩ := hall 5 (by decide)
      obtain ⟨y6, h6⟩ := hall 6 (by decide)
      obtain ⟨y7, h7⟩ := hall 7 (by decide)
      obtain ⟨y8, h8⟩ := hall 8 (by decide)
      obtain ⟨y9, h9⟩ := hall 9 (by decide)
      obtain ⟨y10, h10⟩ := hall 10 (by decide)
      obtain ⟨P, rfl, hP1, -, hP3⟩ := hI.x8 y8 h8
      obtain ⟨uj, hbj, h4j⟩ := hP3 (by rw [h9]; simp)
      obtain ⟨u2, hu2, hln⟩ := hI.x4 _ h4j
      have hlv := hln.lv.cells (jtup_cells hu2).symm
      have HBJ := Lib.hid hbj
      have HLJ := Lib.hid hlv
      have HGC := Lib.hid hI.gr
      obtain rfl := hI.x10 _ h10
      simp only [putAll, putV, h0, h1, h2, h3, h4, h5, h6, h7, h8, h9, h10]
      clear hI hall h0 h1 h2 h3 h4 h5 h6 h7 h8 h9 h10 hbj hlv hln hu2 h4j hP3
      simp only [Act.put, List.setIfInBounds_toArray, List.set_cons_zero, List.set_cons_succ]
      go_wp2_with fail
      go_meet
      exact ⟨P, uj, rfl, rfl, HBJ.out, HLJ.out, HG1.out.trans HGC.out⟩
  case rest =>
    obtain ⟨P, uj, rfl, rfl, hbj, hlj, hg⟩ := hcut
    rename World => w2
    have HBJ := Lib.hid hbj
    have HLJ := Lib.hid hlj
    have HG2 := Lib.hid hg
    obtain ⟨p0, p1, p2, p3, p4, p5, p6, p7⟩ := (HA.out.gr hg).all
    obtain ⟨q0, q1, q2, q3, q4, q5, q6, q7⟩ := (HB.out.gr hg).all
    clear hbj hlj hg
    go_wp2_with fail
    refine (HRJ.out _ HG2.out).mono ?_
    rintro e w3 ⟨uk, rfl, hlk, g3⟩
    have hz : LBox (w3.alloc (.cells (lcells fun _ => ⟨none, 0, 0⟩) 24)) w3.heap.size Z3 := ⟨heap_alloc _ _ _⟩
    obtain ⟨c0, c1, c2, c3, c4, c5, c6, c7⟩ := hz.zero
    have f0 := unfrozen_of_block hz.box 0
    have f1 := unfrozen_of_block hz.box 1
    have f2 := unfrozen_of_block hz.box 2
    have f3 := unfrozen_of_block hz.box 3
    have f4 := unfrozen_of_block hz.box 4
    have f5 := unfrozen_of_block hz.box 5
    have f6 := unfrozen_of_block hz.box 6
    have f7 := unfrozen_of_block hz.box 7
    have HLK := Lib.hid hlk.lv
    have HG3 := Lib.hid g3
    have HZ := Lib.hid hz
    clear hz hlk g3 p0 p1 p2 p3 p4 p5 p6 p7 q0 q1 q2 q3 q4 q5 q6 q7
    go_upto_region 5 with (fail)
    have hb4 : LBox (w3.alloc (.cells (lcells uk) 24)) w3.heap.size uk := ⟨heap_alloc _ _ _⟩
    have g4 : Gr w3 (w3.alloc (.cells (lcells uk) 24)) := (Gr.refl w3).alloc _
    obtain ⟨w4, hw4⟩ : ∃ x, x = (w3.alloc (.cells (lcells uk) 24)) := ⟨_, rfl⟩
    rw [← hw4] at hb4 g4 ⊢
    have HG4 := Lib.hid g4
    clear hw4 c0 c1 c2 c3 c4 c5 c6 c7 f0 f1 f2 f3 f4 f5 f6 f7
    obtain ⟨p0, p1, p2, p3, p4, p5, p6, p7⟩ := (HBJ.out.gr (HG3.out.trans g4)).all
    obtain ⟨q0, q1, q2, q3, q4, q5, q6, q7⟩ := hb4.all
    clear hb4 g4
    go_wp2_with fail
    refine (rsame9_any uj uk J J w4 (HLJ.out.gr (HG3.out.trans HG4.out)) (HLK.out.gr HG4.out)).mono ?_
    rintro e w5 ⟨rfl, g5⟩
    rw [sameLG_self]
    have HG5 := Lib.hid (HG2.out.trans (HG3.out.trans (HG4.out.trans g5)))
    have HB5 := Lib.hid (HBJ.out.gr (HG3.out.trans (HG4.out.trans g5)))
    have HL5 := Lib.hid (HLJ.out.gr (HG3.out.trans (HG4.out.trans g5)))
    clear g5 p0 p1 p2 p3 p4 p5 p6 p7 q0 q1 q2 q3 q4 q5 q6 q7 HG3 HG4 HLK HBJ HLJ HZ
    by_cases he : ej = 0
    case neg =>
      have hne : ¬ ((ej : Int) = 0) := by omega
      go_wp2_with fail
      go_ret
      exact ⟨rfl, HG.out.trans HG5.out⟩
    have he0 : (ej : Int) = 0 := by omega
    obtain ⟨hcJ, hqJ, hfJ, hnJ, hb1, hs2, hjj, hvv⟩ := HJF.out he
    obtain ⟨J9, hJ9⟩ : ∃ x, x = (joinR b a).2 := ⟨_, rfl⟩
    rw [← hJ9] at hs2
    rw [hb1, ← hJ9] at HJB
    have HCJ := Lib.hid hcJ
    have HQJ := Lib.hid hqJ
    have HFJ := Lib.hid hfJ
    have HNJ := Lib.hid hnJ
    have HS2 := Lib.hid hs2
    have HJJ := Lib.hid hjj
    have HVV := Lib.hid hvv
    clear hcJ hqJ hfJ hnJ hb1 hs2 hjj hvv hJ9
    go_upto_region 9 with (fail)
    go_cut [8, 9] (fun s8 s9 wx => ∃ P uj, s8 = .int .i64 0 ∧ s9 = .pointer (some ⟨P, 0, none⟩) ∧ LBox wx P uj ∧ LV wx uj J9 ∧ Gr w5 wx)
    case first =>
      refine wp_region_noPanic ?_
      refine iRegionA (IJ w5 v u b a J9 0) (by kernel_rfl) (by kernel_rfl) ij_start ?_ ?_
      · intro i o ho vals wc A hI hn hdep hOld hNew
        have hi : i < 11 := (List.getElem?_eq_some_iff.1 ho).1
        have hgc := HG5.out.trans hI.gr
        obtain ⟨p0, p1, p2, p3, p4, p5, p6, p7⟩ := (HB.out.gr hgc).all
        obtain ⟨q0, q1, q2, q3, q4, q5, q6, q7⟩ := (HA.out.gr hgc).all
        have e2 : A.tmps[3]?.getD undef = .pointer (some ⟨w.heap.size + 1, 0, none⟩) := slotE (hOld 3 (by kernel_rfl))
        have e3 : A.tmps[2]?.getD undef = .pointer (some ⟨w.heap.size, 0, none⟩) := slotE (hOld 2 (by kernel_rfl))
        obtain rfl | rfl | rfl | rfl | rfl | rfl | rfl | rfl | rfl | rfl | rfl : i = 0 ∨ i = 1 ∨ i = 2 ∨ i = 3 ∨ i = 4 ∨ i = 5 ∨ i = 6 ∨ i = 7 ∨ i = 8 ∨ i = 9 ∨ i = 10 := by omega
        · obtain rfl := Option.some.inj (show some _ = some o from ho)
          refine aVal rfl rfl (v := .agg (lcells v)) (w' := wc) ?_ ⟨_, rfl, hI.up0⟩
          go_simp
        · obtain rfl := Option.some.inj (show some _ = some o from ho)
          obtain ⟨y0, hy0⟩ := hdep ⟨0, .data⟩ (by simp) rfl
          have s0 := slotE (hNew 0 40 _ y0 rfl rfl (by kernel_rfl) hy0)
          rw [hI.x0 y0 hy0] at s0
          refine aCall rfl rfl (w1 := wc) ?_ ((HC2.out wc hgc).mono fun e w' ⟨u', he, hl, hg⟩ => ⟨_, he, _, rfl, (hI.next hg).up1 hl.lv⟩)
          go_simp
        · obtain rfl := Option.some.inj (show some _ = some o from ho)
          refine aVal rfl rfl (v := .agg (lcells u)) (w' := wc) ?_ ⟨_, rfl, hI.up2⟩
          go_simp
        · obtain rfl := Option.some.inj (show some _ = some o from ho)
          obtain ⟨y0, hy0⟩ := hdep ⟨2, .data⟩ (by simp) rfl
          have s0 := slotE (hNew 2 42 _ y0 rfl rfl (by kernel_rfl) hy0)
          rw [hI.x2 y0 hy0] at s0
          refine aCall rfl rfl (w1 := wc) ?_ ((HC1.out wc hgc).mono fun e w' ⟨u', he, hl, hg⟩ => ⟨_, he, _, rfl, (hI.next hg).up3 hl.lv⟩)
          go_simp
        · obtain rfl := Option.some.inj (show some _ = some o from ho)
          obtain ⟨y0, hy0⟩ := hdep ⟨1, .data⟩ (by simp) rfl
          obtain ⟨y1, hy1⟩ := hdep ⟨3, .data⟩ (by simp) rfl
          obtain ⟨u1, rfl, hl1⟩ := hI.x1 hn y0 hy0
          obtain ⟨u2, rfl, hl2⟩ := hI.x3 hn y1 hy1
          have s0 := slotE (hNew 1 41 _ _ rfl rfl (by kernel_rfl) hy0)
          have s1 := slotE (hNew 3 43 _ _ rfl rfl (by kernel_rfl) hy1)
          refine aCall rfl rfl (w1 := wc) ?_ ((HJB.out u1 u2 wc hl1 hl2).mono fun e w' ⟨u', he, hl, hg⟩ => ⟨_, he, _, rfl, (hI.next hg).up4 hn (fun i hi => (hl i hi).le hI.gr.size)⟩)
          go_simp
        · obtain rfl := Option.some.inj (show some _ = some o from ho)
          obtain ⟨y0, hy0⟩ := hdep ⟨4, .data⟩ (by simp) rfl
          have s0 := slotE (hNew 4 44 _ y0 rfl rfl (by kernel_rfl) hy0)
          refine aVal rfl rfl (v := y0) (w' := wc) ?_ ⟨_, rfl, hI.up5 hy0⟩
          go_simp
        · obtain rfl := Option.some.inj (show some _ = some o from ho)
          obtain ⟨y0, hy0⟩ := hdep ⟨5, .data⟩ (by simp) rfl
          have h4 := hI.x5 y0 hy0
          obtain ⟨u', rfl, -⟩ := hI.x4 y0 h4
          have s0 := slotE (hNew 5 39 _ _ rfl rfl (by kernel_rfl) hy0)
          refine aVal rfl rfl (v := .agg (lcells u')) (w' := wc) ?_ ⟨_, rfl, hI.up6 h4⟩
          go_simp
        · obtain rfl := Option.some.inj (show some _ = some o from ho)
          obtain ⟨y0, hy0⟩ := hdep ⟨5, .data⟩ (by simp) rfl
          have h4 := hI.x5 y0 hy0
          obtain ⟨u', rfl, -⟩ := hI.x4 y0 h4
          have s0 := slotE (hNew 5 39 _ _ rfl rfl (by kernel_rfl) hy0)
          refine aVal rfl rfl (v := .int .i64 ((0 : Nat) : Int)) (w' := wc) ?_ ⟨_, rfl, hI.up7⟩
          go_simp
        · obtain rfl := Option.some.inj (show some _ = some o from ho)
          refine aVal rfl rfl (v := .pointer (some ⟨wc.heap.size, 0, none⟩)) (w' := wc.alloc (.cells (lcells fun _ => ⟨none, 0, 0⟩) 24)) ?_ ⟨_, rfl, hI.up8 hn⟩
          go_simp
        · obtain rfl := Option.some.inj (show some _ = some o from ho)
          obtain ⟨y0, hy0⟩ := hdep ⟨8, .data⟩ (by simp) rfl
          obtain ⟨y1, hy1⟩ := hdep ⟨6, .data⟩ (by simp) rfl
          obtain ⟨P, rfl, hP1, hP2, -⟩ := hI.x8 y0 hy0
          obtain ⟨u', rfl, h4⟩ := hI.x6 y1 hy1
          have hz := hP2 hn
          have s0 := slotE (hNew 8 9 _ _ rfl rfl (by kernel_rfl) hy0)
          have s1 := slotE (hNew 6 45 _ _ rfl rfl (by kernel_rfl) hy1)
          obtain ⟨c0, c1, c2, c3, c4, c5, c6, c7⟩ := hz.zero
          have f0 := unfrozen_of_block hz.box 0
          have f1 := unfrozen_of_block hz.box 1
          have f2 := unfrozen_of_block hz.box 2
          have f3 := unfrozen_of_block hz.box 3
          have f4 := unfrozen_of_block hz.box 4
          have f5 := unfrozen_of_block hz.box 5
          have f6 := unfrozen_of_block hz.box 6
          have f7 := unfrozen_of_block hz.box 7
          refine aSkip rfl rfl (w' := putCells wc P 0 (lcells u').toList) ?_ ⟨_, rfl, hI.up9 hy0 hn h4⟩
          clear hz hI
          go_simp
          rfl
        · obtain rfl := Option.some.inj (show some _ = some o from ho)
          obtain ⟨y0, hy0⟩ := hdep ⟨7, .data⟩ (by simp) rfl
          have s0 := slotE (hNew 7 46 _ y0 rfl rfl (by kernel_rfl) hy0)
          rw [hI.x7 y0 hy0] at s0
          refine aVal rfl rfl (v := .int .i64 ((0 : Nat) : Int)) (w' := wc) ?_ ⟨_, rfl, hI.up10⟩
          go_simp
      · intro vals wc hall hI
        refine NoPanic.normal ?_
        obtain ⟨y0, h0⟩ := hall 0 (by decide)
        obtain ⟨y1, h1⟩ := hall 1 (by decide)
        obtain ⟨y2, h2⟩ := hall 2 (by decide)
        obtain ⟨y3, h3⟩ := hall 3 (by decide)
        obtain ⟨y4, h4⟩ := hall 4 (by decide)
        obtain ⟨y5, h5⟩ := hall 5 (by decide)
        obtain ⟨y6, h6⟩ := hall 6 (by decide)
        obtain ⟨y7, h7⟩ := hall 7 (by decide)
        obtain ⟨y8, h8⟩ := hall 8 (by decide)
        obtain ⟨y9, h9⟩ := hall 9 (by decide)
        obtain ⟨y10, h10⟩ := hall 10 (by decide)
        obtain ⟨P, rfl, hP1, -, hP3⟩ := hI.x8 y8 h8
        obtain ⟨uj, hbj, h4j⟩ := hP3 (by rw [h9]; simp)
        obtain ⟨u2, hu2, hln⟩ := hI.x4 _ h4j
        have hlv := hln.lv.cells (jtup_cells hu2).symm
        have HBJ := Lib.hid hbj
        have HLJ := Lib.hid hlv
        have HGC := Lib.hid hI.gr
        obtain rfl := hI.x10 _ h10
        simp only [putAll, putV, h0, h1, h2, h3, h4, h5, h6, h7, h8, h9, h10]
        clear hI hall h0 h1 h2 h3 h4 h5 h6 h7 h8 h9 h10 hbj hlv hln hu2 h4j hP3
        simp only [Act.put, List.setIfInBounds_toArray, List.set_cons_zero, List.set_cons_succ]
        go_wp2_with fail
        go_meet
        exact ⟨P, uj, rfl, rfl, HBJ.out, HLJ.out, HGC.out⟩
    case rest =>
      obtain ⟨P9, u9, rfl, rfl, hb9, hl9, hg9⟩ := hcut
      rename World => w9
      have HB9 := Lib.hid hb9
      have HL9 := Lib.hid hl9
      have HBP := Lib.hid (HB5.out.gr hg9)
      have HLP := Lib.hid (HL5.out.gr hg9)
      have HG9 := Lib.hid (HG5.out.trans hg9)
      have HC3 := Lib.hid (fun w1 (g : Gr w9 w1) => rcopy9_any uj J w1 (HLP.out.gr g) HFJ.out)
      have HJ3 := Lib.hid (fun u1 u2 w1 (h1 : LV w1 u1 J) (h2 : LV w1 u2 J) => join9_any u1 u2 J J w1 h1 h2 HQJ.out HQJ.out HFJ.out HFJ.out HNJ.out HNJ.out)
      rw [HJJ.out] at HJ3
      clear hb9 hl9 hg9 HB5 HL5 he0
      go_upto_region 10 with (fail)
      go_cut [10, 11] (fun s10 s11 wx => ∃ P uj, s10 = .pointer (some ⟨P, 0, none⟩) ∧ s11 = .int .i64 0 ∧ LBox wx P uj ∧ LV wx uj J ∧ Gr w9 wx)
      case first =>
        refine wp_region_noPanic ?_
        refine iRegionA (IJ w9 uj uj J J J 0) (by kernel_rfl) (by kernel_rfl) ij_start ?_ ?_
        · intro i o ho vals wc A hI hn hdep hOld hNew
          have hi : i < 11 := (List.getElem?_eq_some_iff.1 ho).1
          have hgc := (Gr.refl w9).trans hI.gr
          obtain ⟨p0, p1, p2, p3, p4, p5, p6, p7⟩ := (HBP.out.gr hgc).all
          obtain ⟨q0, q1, q2, q3, q4, q5, q6, q7⟩ := (HBP.out.gr hgc).all
          have e2 : A.tmps[5]?.getD undef = .pointer (some ⟨P, 0, none⟩) := slotE (hOld 5 (by kernel_rfl))
          have e3 : A.tmps[5]?.getD undef = .pointer (some ⟨P, 0, none⟩) := slotE (hOld 5 (by kernel_rfl))
          obtain rfl | rfl | rfl | rfl | rfl | rfl | rfl | rfl | rfl | rfl | rfl : i = 0 ∨ i = 1 ∨ i = 2 ∨ i = 3 ∨ i = 4 ∨ i = 5 ∨ i = 6 ∨ i = 7 ∨ i = 8 ∨ i = 9 ∨ i = 10 := by omega
          · obtain rfl := Option.some.inj (show some _ = some o from ho)
            refine aVal rfl rfl (v := .agg (lcells uj)) (w' := wc) ?_ ⟨_, rfl, hI.up0⟩
            go_simp
          · obtain rfl := Option.some.inj (show some _ = some o from ho)
            obtain ⟨y0, hy0⟩ := hdep ⟨0, .data⟩ (by simp) rfl
            have s0 := slotE (hNew 0 48 _ y0 rfl rfl (by kernel_rfl) hy0)
            rw [hI.x0 y0 hy0] at s0
            refine aCall rfl rfl (w1 := wc) ?_ ((HC3.out wc hgc).mono fun e w' ⟨u', he, hl, hg⟩ => ⟨_, he, _, rfl, (hI.next hg).up1 hl.lv⟩)
            go_simp
          · obtain rfl := Option.some.inj (show some _ = some o from ho)
            refine aVal rfl rfl (v := .agg (lcells uj)) (w' := wc) ?_ ⟨_, rfl, hI.up2⟩
            go_simp
          · obtain rfl := Option.some.inj (show some _ = some o from ho)
            obtain ⟨y0, hy0⟩ := hdep ⟨2, .data⟩ (by simp) rfl
            have s0 := slotE (hNew 2 50 _ y0 rfl rfl (by kernel_rfl) hy0)
            rw [hI.x2 y0 hy0] at s0
            refine aCall rfl rfl (w1 := wc) ?_ ((HC3.out wc hgc).mono fun e w' ⟨u', he, hl, hg⟩ => ⟨_, he, _, rfl, (hI.next hg).up3 hl.lv⟩)
            go_simp
          · obtain rfl := Option.some.inj (show some _ = some o from ho)
            obtain ⟨y0, hy0⟩ := hdep ⟨1, .data⟩ (by simp) rfl
            obtain ⟨y1, hy1⟩ := hdep ⟨3, .data⟩ (by simp) rfl
            obtain ⟨u1, rfl, hl1⟩ := hI.x1 hn y0 hy0
            obtain ⟨u2, rfl, hl2⟩ := hI.x3 hn y1 hy1
            have s0 := slotE (hNew 1 49 _ _ rfl rfl (by kernel_rfl) hy0)
            have s1 := slotE (hNew 3 51 _ _ rfl rfl (by kernel_rfl) hy1)
            refine aCall rfl rfl (w1 := wc) ?_ ((HJ3.out u1 u2 wc hl1 hl2).mono fun e w' ⟨u', he, hl, hg⟩ => ⟨_, he, _, rfl, (hI.next hg).up4 hn (fun i hi => (hl i hi).le hI.gr.size)⟩)
            go_simp
          · obtain rfl := Option.some.inj (show some _ = some o from ho)
            obtain ⟨y0, hy0⟩ := hdep ⟨4, .data⟩ (by simp) rfl
            have s0 := slotE (hNew 4 52 _ y0 rfl rfl (by kernel_rfl) hy0)
            refine aVal rfl rfl (v := y0) (w' := wc) ?_ ⟨_, rfl, hI.up5 hy0⟩
            go_simp
          · obtain rfl := Option.some.inj (show some _ = some o from ho)
            obtain ⟨y0, hy0⟩ := hdep ⟨5, .data⟩ (by simp) rfl
            have h4 := hI.x5 y0 hy0
            obtain ⟨u', rfl, -⟩ := hI.x4 y0 h4
            have s0 := slotE (hNew 5 47 _ _ rfl rfl (by kernel_rfl) hy0)
            refine aVal rfl rfl (v := .agg (lcells u')) (w' := wc) ?_ ⟨_, rfl, hI.up6 h4⟩
            go_simp
          · obtain rfl := Option.some.inj (show some _ = some o from ho)
            obtain ⟨y0, hy0⟩ := hdep ⟨5, .data⟩ (by simp) rfl
            have h4 := hI.x5 y0 hy0
            obtain ⟨u', rfl, -⟩ := hI.x4 y0 h4
            have s0 := slotE (hNew 5 47 _ _ rfl rfl (by kernel_rfl) hy0)
            refine aVal rfl rfl (v := .int .i64 ((0 : Nat) : Int)) (w' := wc) ?_ ⟨_, rfl, hI.up7⟩
            go_simp
          · obtain rfl := Option.some.inj (show some _ = some o from ho)
            refine aVal rfl rfl (v := .pointer (some ⟨wc.heap.size, 0, none⟩)) (w' := wc.alloc (.cells (lcells fun _ => ⟨none, 0, 0⟩) 24)) ?_ ⟨_, rfl, hI.up8 hn⟩
            go_simp
          · obtain rfl := Option.some.inj (show some _ = some o from ho)
            obtain ⟨y0, hy0⟩ := hdep ⟨8, .data⟩ (by simp) rfl
            obtain ⟨y1, hy1⟩ := hdep ⟨6, .data⟩ (by simp) rfl
            obtain ⟨P, rfl, hP1, hP2, -⟩ := hI.x8 y0 hy0
            obtain ⟨u', rfl, h4⟩ := hI.x6 y1 hy1
            have hz := hP2 hn
            have s0 := slotE (hNew 8 10 _ _ rfl rfl (by kernel_rfl) hy0)
            have s1 := slotE (hNew 6 53 _ _ rfl rfl (by kernel_rfl) hy1)
            obtain ⟨c0, c1, c2, c3, c4, c5, c6, c7⟩ := hz.zero
            have f0 := unfrozen_of_block hz.box 0
            have f1 := unfrozen_of_block hz.box 1
            have f2 := unfrozen_of_block hz.box 2
            have f3 := unfrozen_of_block hz.box 3
            have f4 := unfrozen_of_block hz.box 4
            have f5 := unfrozen_of_block hz.box 5
            have f6 := unfrozen_of_block hz.box 6
            have f7 := unfrozen_of_block hz.box 7
            refine aSkip rfl rfl (w' := putCells wc P 0 (lcells u').toList) ?_ ⟨_, rfl, hI.up9 hy0 hn h4⟩
            clear hz hI
            go_simp
            rfl
          · obtain rfl := Option.some.inj (show some _ = some o from ho)
            obtain ⟨y0, hy0⟩ := hdep ⟨7, .data⟩ (by simp) rfl
            have s0 := slotE (hNew 7 54 _ y0 rfl rfl (by kernel_rfl) hy0)
            rw [hI.x7 y0 hy0] at s0
            refine aVal rfl rfl (v := .int .i64 ((0 : Nat) : Int)) (w' := wc) ?_ ⟨_, rfl, hI.up10⟩
            go_simp
        · intro vals wc hall hI
          refine NoPanic.normal ?_
          obtain ⟨y0, h0⟩ := hall 0 (by decide)
          obtain ⟨y1, h1⟩ := hall 1 (by decide)
          obtain ⟨y2, h2⟩ := hall 2 (by decide)
          obtain ⟨y3, h3⟩ := hall 3 (by decide)
          obtain ⟨y4, h4⟩ := hall 4 (by decide)
          obtain ⟨y5, h5⟩ := hall 5 (by decide)
          obtain ⟨y6, h6⟩ := hall 6 (by decide)
          obtain ⟨y7, h7⟩ := hall 7 (by decide)
          obtain ⟨y8, h8⟩ := hall 8 (by decide)
          obtain ⟨y9, h9⟩ := hall 9 (by decide)
          obtain ⟨y10, h10⟩ := hall 10 (by decide)
          obtain ⟨P, rfl, hP1, -, hP3⟩ := hI.x8 y8 h8
          obtain ⟨uj, hbj, h4j⟩ := hP3 (by rw [h9]; simp)
          obtain ⟨u2, hu2, hln⟩ := hI.x4 _ h4j
          have hlv := hln.lv.cells (jtup_cells hu2).symm
          have HBJ := Lib.hid hbj
          have HLJ := Lib.hid hlv
          have HGC := Lib.hid hI.gr
          obtain rfl := hI.x10 _ h10
          simp only [putAll, putV, h0, h1, h2, h3, h4, h5, h6, h7, h8, h9, h10]
          clear hI hall h0 h1 h2 h3 h4 h5 h6 h7 h8 h9 h10 hbj hlv hln hu2 h4j hP3
          simp only [Act.put, List.setIfInBounds_toArray, List.set_cons_zero, List.set_cons_succ]
          go_wp2_with fail
          go_meet
          exact ⟨P, uj, rfl, rfl, HBJ.out, HLJ.out, HGC.out⟩
      case rest =>
        obtain ⟨P10, u10, rfl, rfl, hb10, hl10, hg10⟩ := hcut
        rename World => wt
        obtain ⟨sJ, hsJ⟩ : ∃ x, x = sizeV J := ⟨_, rfl⟩
        have HS1 := Lib.hid (fun w1 (g : Gr wt w1) => rsame9_any u9 uj J9 J w1 ((HL9.out.gr hg10).gr g) ((HLP.out.gr hg10).gr g))
        have HS3 := Lib.hid (fun w1 (g : Gr wt w1) => rsame9_any u10 uj J J w1 (hl10.gr g) ((HLP.out.gr hg10).gr g))
        have HCK := Lib.hid (fun w1 (g : Gr wt w1) => rcheck9_any uj J w1 ((HLP.out.gr hg10).gr g) HQJ.out)
        have HZ1 := Lib.hid (fun w1 (g : Gr wt w1) => size_any uj J w1 ((HLP.out.gr hg10).gr g))
        have HZ2 := Lib.hid (fun w1 (g : Gr wt w1) => rsize_any u a w1 ((HLA.out.gr (HG9.out.trans hg10)).gr g))
        have HZ3 := Lib.hid (fun w1 (g : Gr wt w1) => rsize_any v b w1 ((HLB.out.gr (HG9.out.trans hg10)).gr g))
        have HJV := Lib.hid (fun w1 => rjoin_any (sizeV a) (sizeV b) w1)
        rw [HVV.out, ← hsJ] at HJV
        rw [← hsJ] at HZ1
        rw [HS2.out] at HS1
        rw [sameLG_self] at HS3
        rw [HCJ.out] at HCK
        obtain ⟨sA, hsA⟩ : ∃ x, x = sizeV a := ⟨_, rfl⟩
        obtain ⟨sB, hsB⟩ : ∃ x, x = sizeV b := ⟨_, rfl⟩
        rw [← hsA] at HZ2 HJV
        rw [← hsB] at HZ3 HJV
        have heq := fun w => equal_vv sJ w
        have HY9 := Lib.hid (HB9.out.gr hg10).lc
        have HYP := Lib.hid (HBP.out.gr hg10).lc
        have HYT := Lib.hid hb10.lc
        have HYA := Lib.hid (HA.out.gr (HG9.out.trans hg10)).lc
        have HYB := Lib.hid (HB.out.gr (HG9.out.trans hg10)).lc
        have HGT := Lib.hid (HG9.out.trans hg10)
        clear hb10 hl10 hg10 hsJ hsA hsB
        go_upto_region 11 with (fail)
        refine qRegion (fun w' => LC w' P9 u9 ∧ LC w' P uj ∧ LC w' P10 u10 ∧ LC w' w.heap.size u ∧ LC w' (w.heap.size + 1) v ∧ Gr wt w') (by kernel_rfl) (by kernel_rfl) ⟨HY9.out.gr (Gr.refl _).drew, HYP.out.gr (Gr.refl _).drew, HYT.out.gr (Gr.refl _).drew, HYA.out.gr (Gr.refl _).drew, HYB.out.gr (Gr.refl _).drew, (Gr.refl _).drew⟩ ?_
        iterate 9
          refine qTake (by kernel_rfl) ?_
          apply Exists.intro
          refine ⟨fun wq hq => ?_, ?_⟩
          · go_light
            obtain ⟨⟨y0, y1, y2, y3, y4, y5, y6, y7⟩, ⟨p0, p1, p2, p3, p4, p5, p6, p7⟩, ⟨t0, t1, t2, t3, t4, t5, t6, t7⟩, ⟨l0, l1, l2, l3, l4, l5, l6, l7⟩, ⟨r0, r1, r2, r3, r4, r5, r6, r7⟩, hg⟩ := hq
            go_simp
            try with_reducible rfl
            done
          try simp only [Act.put, List.setIfInBounds_toArray, List.set_cons_zero, List.set_cons_succ]
        refine qCall (by kernel_rfl) ?_
        apply Exists.intro
        refine ⟨?_, ?_⟩
        · apply Exists.intro
          apply Exists.intro
          refine ⟨fun wq => ?_, fun wq hq => ?_⟩
          · go_light
            go_simp
            exact ⟨rfl, rfl⟩
          · exact (HS1.out wq hq.2.2.2.2.2).mono fun e w'' ⟨he, hg⟩ => ⟨he, hq.1.gr hg, hq.2.1.gr hg, hq.2.2.1.gr hg, hq.2.2.2.1.gr hg, hq.2.2.2.2.1.gr hg, hq.2.2.2.2.2.trans hg⟩
        try simp only [Act.put, List.setIfInBounds_toArray, List.set_cons_zero, List.set_cons_succ]
        iterate 4
          refine qTake (by kernel_rfl) ?_
          apply Exists.intro
          refine ⟨fun wq hq => ?_, ?_⟩
          · go_light
            obtain ⟨⟨y0, y1, y2, y3, y4, y5, y6, y7⟩, ⟨p0, p1, p2, p3, p4, p5, p6, p7⟩, ⟨t0, t1, t2, t3, t4, t5, t6, t7⟩, ⟨l0, l1, l2, l3, l4, l5, l6, l7⟩, ⟨r0, r1, r2, r3, r4, r5, r6, r7⟩, hg⟩ := hq
            go_simp
            try with_reducible rfl
            done
          try simp only [Act.put, List.setIfInBounds_toArray, List.set_cons_zero, List.set_cons_succ]
        refine qCall (by kernel_rfl) ?_
        apply Exists.intro
        refine ⟨?_, ?_⟩
        · apply Exists.intro
          apply Exists.intro
          refine ⟨fun wq => ?_, fun wq hq => ?_⟩
          · go_light
            go_simp
            exact ⟨rfl, rfl⟩
          · exact (HS3.out wq hq.2.2.2.2.2).mono fun e w'' ⟨he, hg⟩ => ⟨he, hq.1.gr hg, hq.2.1.gr hg, hq.2.2.1.gr hg, hq.2.2.2.1.gr hg, hq.2.2.2.2.1.gr hg, hq.2.2.2.2.2.trans hg⟩
        try simp only [Act.put, List.setIfInBounds_toArray, List.set_cons_zero, List.set_cons_succ]
        iterate 3
          refine qTake (by kernel_rfl) ?_
          apply Exists.intro
          refine ⟨fun wq hq => ?_, ?_⟩
          · go_light
            obtain ⟨⟨y0, y1, y2, y3, y4, y5, y6, y7⟩, ⟨p0, p1, p2, p3, p4, p5, p6, p7⟩, ⟨t0, t1, t2, t3, t4, t5, t6, t7⟩, ⟨l0, l1, l2, l3, l4, l5, l6, l7⟩, ⟨r0, r1, r2, r3, r4, r5, r6, r7⟩, hg⟩ := hq
            go_simp
            try with_reducible rfl
            done
          try simp only [Act.put, List.setIfInBounds_toArray, List.set_cons_zero, List.set_cons_succ]
        refine qCall (by kernel_rfl) ?_
        apply Exists.intro
        refine ⟨?_, ?_⟩
        · apply Exists.intro
          apply Exists.intro
          refine ⟨fun wq => ?_, fun wq hq => ?_⟩
          · go_light
            go_simp
            exact ⟨rfl, rfl⟩
          · exact (HCK.out wq hq.2.2.2.2.2).mono fun e w'' ⟨he, hg⟩ => ⟨he, hq.1.gr hg, hq.2.1.gr hg, hq.2.2.1.gr hg, hq.2.2.2.1.gr hg, hq.2.2.2.2.1.gr hg, hq.2.2.2.2.2.trans hg⟩
        try simp only [Act.put, List.setIfInBounds_toArray, List.set_cons_zero, List.set_cons_succ]
        iterate 4
          refine qTake (by kernel_rfl) ?_
          apply Exists.intro
          refine ⟨fun wq hq => ?_, ?_⟩
          · go_light
            obtain ⟨⟨y0, y1, y2, y3, y4, y5, y6, y7⟩, ⟨p0, p1, p2, p3, p4, p5, p6, p7⟩, ⟨t0, t1, t2, t3, t4, t5, t6, t7⟩, ⟨l0, l1, l2, l3, l4, l5, l6, l7⟩, ⟨r0, r1, r2, r3, r4, r5, r6, r7⟩, hg⟩ := hq
            go_simp
            try with_reducible rfl
            done
          try simp only [Act.put, List.setIfInBounds_toArray, List.set_cons_zero, List.set_cons_succ]
        refine qCall (by kernel_rfl) ?_
        apply Exists.intro
        refine ⟨?_, ?_⟩
        · apply Exists.intro
          apply Exists.intro
          refine ⟨fun wq => ?_, fun wq hq => ?_⟩
          · go_light
            go_simp
            exact ⟨rfl, rfl⟩
          · exact (HZ1.out wq hq.2.2.2.2.2).mono fun e w'' ⟨he, hg⟩ => ⟨he, hq.1.gr hg, hq.2.1.gr hg, hq.2.2.1.gr hg, hq.2.2.2.1.gr hg, hq.2.2.2.2.1.gr hg, hq.2.2.2.2.2.trans hg⟩
        try simp only [Act.put, List.setIfInBounds_toArray, List.set_cons_zero, List.set_cons_succ]
        iterate 1
          refine qTake (by kernel_rfl) ?_
          apply Exists.intro
          refine ⟨fun wq hq => ?_, ?_⟩
          · go_light
            obtain ⟨⟨y0, y1, y2, y3, y4, y5, y6, y7⟩, ⟨p0, p1, p2, p3, p4, p5, p6, p7⟩, ⟨t0, t1, t2, t3, t4, t5, t6, t7⟩, ⟨l0, l1, l2, l3, l4, l5, l6, l7⟩, ⟨r0, r1, r2, r3, r4, r5, r6, r7⟩, hg⟩ := hq
            go_simp
            try with_reducible rfl
            done
          try simp only [Act.put, List.setIfInBounds_toArray, List.set_cons_zero, List.set_cons_succ]
        refine qCall (by kernel_rfl) ?_
        apply Exists.intro
        refine ⟨?_, ?_⟩
        · apply Exists.intro
          apply Exists.intro
          refine ⟨fun wq => ?_, fun wq hq => ?_⟩
          · go_light
            go_simp
            exact ⟨rfl, rfl⟩
          · exact (HZ2.out wq hq.2.2.2.2.2).mono fun e w'' ⟨he, hg⟩ => ⟨he, hq.1.gr hg, hq.2.1.gr hg, hq.2.2.1.gr hg, hq.2.2.2.1.gr hg, hq.2.2.2.2.1.gr hg, hq.2.2.2.2.2.trans hg⟩
        try simp only [Act.put, List.setIfInBounds_toArray, List.set_cons_zero, List.set_cons_succ]
        iterate 1
          refine qTake (by kernel_rfl) ?_
          apply Exists.intro
          refine ⟨fun wq hq => ?_, ?_⟩
          · go_light
            obtain ⟨⟨y0, y1, y2, y3, y4, y5, y6, y7⟩, ⟨p0, p1, p2, p3, p4, p5, p6, p7⟩, ⟨t0, t1, t2, t3, t4, t5, t6, t7⟩, ⟨l0, l1, l2, l3, l4, l5, l6, l7⟩, ⟨r0, r1, r2, r3, r4, r5, r6, r7⟩, hg⟩ := hq
            go_simp
            try with_reducible rfl
            done
          try simp only [Act.put, List.setIfInBounds_toArray, List.set_cons_zero, List.set_cons_succ]
        refine qCall (by kernel_rfl) ?_
        apply Exists.intro
        refine ⟨?_, ?_⟩
        · apply Exists.intro
          apply Exists.intro
          refine ⟨fun wq => ?_, fun wq hq => ?_⟩
          · go_light
            go_simp
            exact ⟨rfl, rfl⟩
          · exact (HZ3.out wq hq.2.2.2.2.2).mono fun e w'' ⟨he, hg⟩ => ⟨he, hq.1.gr hg, hq.2.1.gr hg, hq.2.2.1.gr hg, hq.2.2.2.1.gr hg, hq.2.2.2.2.1.gr hg, hq.2.2.2.2.2.trans hg⟩
        try simp only [Act.put, List.setIfInBounds_toArray, List.set_cons_zero, List.set_cons_succ]
        refine qCall (by kernel_rfl) ?_
        apply Exists.intro
        refine ⟨?_, ?_⟩
        · apply Exists.intro
          apply Exists.intro
          refine ⟨fun wq => ?_, fun wq hq => ?_⟩
          · go_light
            go_simp
            exact ⟨rfl, rfl⟩
          · exact (HJV.out wq).mono fun e w'' ⟨he, hg⟩ => ⟨he, hq.1.gr hg, hq.2.1.gr hg, hq.2.2.1.gr hg, hq.2.2.2.1.gr hg, hq.2.2.2.2.1.gr hg, hq.2.2.2.2.2.trans hg⟩
        try simp only [Act.put, List.setIfInBounds_toArray, List.set_cons_zero, List.set_cons_succ]
        iterate 3
          refine qTake (by kernel_rfl) ?_
          apply Exists.intro
          refine ⟨fun wq hq => ?_, ?_⟩
          · go_light
            obtain ⟨⟨y0, y1, y2, y3, y4, y5, y6, y7⟩, ⟨p0, p1, p2, p3, p4, p5, p6, p7⟩, ⟨t0, t1, t2, t3, t4, t5, t6, t7⟩, ⟨l0, l1, l2, l3, l4, l5, l6, l7⟩, ⟨r0, r1, r2, r3, r4, r5, r6, r7⟩, hg⟩ := hq
            go_simp
            try with_reducible rfl
            done
          try simp only [Act.put, List.setIfInBounds_toArray, List.set_cons_zero, List.set_cons_succ]
        refine qNil ?_
        rintro w13 ⟨-, -, -, -, -, hg13⟩
        have HGF := Lib.hid hg13
        clear hg13
        go_wp2_with fail
        go_ret
        exact ⟨rfl, HG.out.trans (HGT.out.trans HGF.out)⟩
end Go.Proofs.Ytlgljanofppleaa
