/- Walks: the law LsmShapes. -/
import Derived.Test.YtccjkfccklfjkaaGreatDoorZs51
namespace Go.Proofs.YtccjkfccklfjkaaGreatDoor
open Go.RowKit

set_option maxRecDepth 100000 in
set_option maxHeartbeats 8000000 in
theorem lsmShapes_any (v : Value) (L : List ActC) (w : World) (hv : AV w v L) (hL : ∀ a ∈ L, FitAct a) (hH : Halves w) :
    Calls Tryz.prog 9 #[v] w fun e w' => e = .returned (.bool true) ∧ Gr w w' := by
  have HAW := Lib.hid (lawake_any w hH)
  have HOP := Lib.hid (fun w1 (q : Gr w w1) => lopen_any (.slice none 0 0) [] w1 (FO.nil w1 0).fv openfit_nil (hH.gr q))
  rw [lopen_start] at HOP
  have HFW := Lib.hid (fun w1 (q : Gr w w1) => few_any v L w1 (hv.gr q))
  have HLF : Hid (∀ a ∈ L.take 40, FitAct a) := Lib.hid (fun a ha => hL a (List.mem_of_mem_take ha))
  have HLN : Hid ((L.take 40).length ≤ 40) := Lib.hid (by rw [List.length_take]; omega)
  obtain ⟨Lf, hLf⟩ : ∃ x, x = L.take 40 := ⟨_, rfl⟩
  rw [← hLf] at HFW HLF HLN
  have HH := Lib.hid hH
  have HV := Lib.hid hv
  obtain ⟨A0, n0, c0, rfl⟩ : ∃ A n c, v = .slice A n c := by
    obtain ⟨A, c, h, _⟩ := hv
    exact ⟨A, _, c, h⟩
  clear hv hL hH hLf
  go_enter Tryz.func9, Tryz.ntmps9
  go_wp2_with fail
  refine HAW.out.mono ?_
  rintro e w1 ⟨rfl, g1⟩
  have HG1 := Lib.hid g1
  clear g1 HAW
  go_wp2_with fail
  refine (HOP.out _ HG1.out).mono ?_
  rintro e w2 ⟨v2, vD2, rfl, hv2, hd2, g2⟩
  obtain ⟨AF, cF, AM, cM, AT, cT, rfl, hF, hM, hT⟩ := hv2.six
  obtain ⟨AD, nD, cD, rfl⟩ : ∃ A n c, vD2 = .slice A n c := by
    obtain ⟨A, c, h, -, -⟩ := own_form hd2
    exact ⟨A, _, c, h⟩
  have HG2 := Lib.hid (HG1.out.trans g2)
  have HST := Lib.hid (stbox_new (hF.le HG1.out.size) (hM.le HG1.out.size) (hT.le HG1.out.size))
  obtain ⟨s0, hs0⟩ : ∃ s, s = st0 := ⟨_, rfl⟩
  rw [← hs0] at HST ⊢
  have HI0 : Hid (SI s0 [] [] 0 0) := Lib.hid (by rw [hs0]; exact si_start)
  obtain ⟨W3, hW3⟩ : ∃ W, W = w2.alloc (.cells #[.slice AF s0.files.length cF, .slice AM s0.mem.length cM, .slice AT s0.tabs.length cT, .int .i64 (s0.gen : Int), .int .i64 (s0.marks : Int)] 30) := ⟨_, rfl⟩
  rw [← hW3] at HST
  have HG3 : Hid (Gr w W3) := Lib.hid (by rw [hW3]; exact HG2.out.alloc _)
  obtain ⟨b3, hb3⟩ : ∃ b, b = w2.heap.size := ⟨_, rfl⟩
  rw [← hb3] at HST
  have HB3 : Hid (w.heap.size ≤ b3) := Lib.hid (by rw [hb3]; exact HG2.out.size)
  clear hv2 hF hM hT hd2 g2 hs0 HOP
  go_upto_region 4 with (fail)
  rw [← hW3, ← hb3]
  clear hW3 hb3
  go_wp2_with fail
  refine (HFW.out _ HG3.out).mono ?_
  rintro e w4 ⟨u, rfl, hu, rfl⟩
  have hu0 := hu w HV.out
  obtain ⟨AL, cL, rfl, hnc, ⟨hc63, -⟩, -⟩ := id hu0
  have HU := Lib.hid hu0
  obtain ⟨n, hn⟩ : ∃ n, n = Lf.length := ⟨_, rfl⟩
  have HN := Lib.hid hn
  have hn40 : n ≤ 40 := by rw [hn]; exact HLN.out
  rw [← hn] at hnc ⊢
  clear hu hu0 hn HFW
  go_wp2_with fail
  go_loopg [7] (n + 1) (fun kx s7 wr => ∃ j : Nat, s7 = .int .i64 (j : Int) ∧ j ≤ n ∧ n - j ≤ kx ∧ Hid (∃ s R Q nn AF cF AM cM AT cT, SI s R Q nn j ∧ StHold wr w.heap.size b3 s AF cF AM cM AT cT ∧ Gr w wr))
  case atStart => exact ⟨0, rfl, Nat.zero_le _, by omega, Lib.hid ⟨s0, _, _, _, _, _, _, _, _, _, HI0.out, HST.out, HG3.out⟩⟩
  case round =>
    obtain ⟨j, rfl, hj, hkx, HI⟩ := hrel
    by_cases hlt : j < n
    · obtain ⟨s, R, Q, nn, AF, cF, AM, cM, AT, cT, hsi, hst, hgw⟩ := HI.out
      have HSI := Lib.hid hsi
      have HSB := Lib.hid hst
      have HGW := Lib.hid hgw
      have hjL : j < Lf.length := by rw [← HN.out]; exact hlt
      obtain ⟨A', c', e1, -, -, e4⟩ := HU.out.gr hgw
      injection e1 with ea eb ec
      subst ea
      obtain ⟨ba, oa, vl, rfl, q0, q1, q2⟩ := e4 j hjL
      obtain ⟨k, hk⟩ : ∃ k, k = Lf[j].kind := ⟨_, rfl⟩
      obtain ⟨l, hl⟩ : ∃ l, l = Lf[j].chs := ⟨_, rfl⟩
      have hfit := HLF.out _ (List.getElem_mem hjL)
      unfold FitAct at hfit
      rw [← hk] at q0
      rw [← hl] at q2 hfit
      obtain ⟨Al, nl, cl, rfl⟩ : ∃ A n c, vl = .slice A n c := by
        obtain ⟨A, c, h, _⟩ := q2
        exact ⟨A, _, c, h⟩
      have hok := si_actok hsi (by omega)
      have HAC := Lib.hid (fun w1 (q : Gr wr w1) => act_any _ (.slice Al nl cl) s k l w1 ((hst.gr q).sto.stv) hok (q2.gr q) hfit.1 hfit.2 (HH.out.gr (hgw.trans q)))
      obtain ⟨r, hr⟩ : ∃ r, r = topR (actR s k l) := ⟨_, rfl⟩
      rw [← hr] at HAC
      have HRR := Lib.hid hr
      have HKN := Lib.hid (fun w1 => kind_any k w1)
      have HQ0 := Lib.hid q0
      have u0 : (0 : Int) ≤ (j : Int) := by omega
      have u1 : (j : Int) < (n : Int) := by omega
      clear HI hsi hst hgw e4 eb ec hk hl hfit hok hr q2 hjL
      obtain ⟨⟨sf, sm, st, sg, sk⟩, rD, re⟩ := r
      have HAC' : Hid (∀ w1, Gr wr w1 → Calls Tryz.prog 19 #[.agg #[.slice AF s.files.length cF, .slice AM s.mem.length cM, .slice AT s.tabs.length cT, .int .i64 (s.gen : Int), .int .i64 (s.marks : Int)], .agg #[.int .i64 k, .slice Al nl cl]] w1 fun e w' => ∃ v, e = .returned v ∧ (∃ v2 vD, v = .tuple #[v2, vD, .int .i64 (re : Int)] ∧ StO w' w1.heap.size v2 ⟨sf, sm, st, sg, sk⟩ ∧ OO w' w1.heap.size vD rD ∧ Gr w1 w')) := Lib.hid (fun w1 q => (HAC.out w1 q).mono (fun e w' h => by
        obtain ⟨v2, vD, h1, h2, h3, h4⟩ := h
        exact ⟨_, h1, v2, vD, rfl, h2, h3, h4⟩))
      clear HAC
      have HGB : Hid (Gr wr (wr.alloc (.cells #[.slice none 0 0, .slice none 0 0, .slice none 0 0, .int .i64 0, .int .i64 0] 30)).drew) := Lib.hid ((gr_box _ _).trans (Gr.refl _).drew)
      have HLB : Hid (w.heap.size ≤ (wr.alloc (.cells #[.slice none 0 0, .slice none 0 0, .slice none 0 0, .int .i64 0, .int .i64 0] 30)).drew.heap.size) := Lib.hid (Nat.le_trans HGW.out.size HGB.out.size)
      have HZ8 : Hid ((wr.alloc (.cells #[.slice none 0 0, .slice none 0 0, .slice none 0 0, .int .i64 0, .int .i64 0] 30)).drew.heap[wr.heap.size]? = some (.cells #[.slice none 0 0, .slice none 0 0, .slice none 0 0, .int .i64 0, .int .i64 0] 30 (0, 0))) := Lib.hid (gr_obj (Gr.refl _).drew (heap_alloc_new wr _))
      have HCA := Lib.hid (HAC'.out wr.drew (Gr.refl _).drew)
      have HCB := Lib.hid (HAC'.out (wr.alloc (.cells #[.slice none 0 0, .slice none 0 0, .slice none 0 0, .int .i64 0, .int .i64 0] 30)).drew HGB.out)
      clear HAC'
      go_upto_region 8 with (fail)
      go_cut [8, 9, 10] (fun s8 s9 s10 wx => ∃ b8 AF' cF' AM' cM' AT' cT' AD' nD' cD', s8 = .pointer (some ⟨b8, 0, none⟩) ∧ s9 = .slice AD' nD' cD' ∧ s10 = .int .i64 (re : Int) ∧ Hid (nD' = rD.length ∧ StHold wx w.heap.size b8 ⟨sf, sm, st, sg, sk⟩ AF' cF' AM' cM' AT' cT' ∧ Gr wr wx))
      case first =>
        have hob := gr_obj (Gr.refl wr).drew HSB.out.1
        have d0 := obj_cell hob (i := 0) rfl
        have d1 := obj_cell hob (i := 1) rfl
        have d2 := obj_cell hob (i := 2) rfl
        have d3 := obj_cell hob (i := 3) rfl
        have d4 := obj_cell hob (i := 4) rfl
        have d5 := (Gr.refl wr).drew.cell q0
        have d6 := (Gr.refl wr).drew.cell q1
        have hoc := gr_obj (gr_box wr (.cells #[.slice none 0 0, .slice none 0 0, .slice none 0 0, .int .i64 0, .int .i64 0] 30)) HSB.out.1
        have e0 := obj_cell hoc (i := 0) rfl
        have e1 := obj_cell hoc (i := 1) rfl
        have e2 := obj_cell hoc (i := 2) rfl
        have e3 := obj_cell hoc (i := 3) rfl
        have e4 := obj_cell hoc (i := 4) rfl
        have e5 := (gr_box wr (.cells #[.slice none 0 0, .slice none 0 0, .slice none 0 0, .int .i64 0, .int .i64 0] 30)).cell q0
        have e6 := (gr_box wr (.cells #[.slice none 0 0, .slice none 0 0, .slice none 0 0, .int .i64 0, .int .i64 0] 30)).cell q1
        clear hob hoc
        go_region_law
          first
          | (refine step_call rfl 19 [.tmp 28, .tmp 32] _ rfl [.agg #[.slice AF s.files.length cF, .slice AM s.mem.length cM, .slice AT s.tabs.length cT, .int .i64 (s.gen : Int), .int .i64 (s.marks : Int)], .agg #[.int .i64 k, .slice Al nl cl]] rfl (cf_act _) HCA.out ?_
             intro v5 w2 h5
             obtain ⟨v2, vD, rfl, hv2, hd2, g2⟩ := h5
             obtain ⟨AF', cF', AM', cM', AT', cT', rfl, hF', hM', hT'⟩ := hv2.six
             have HR2 := Lib.hid (And.intro (hF'.le HGW.out.size) (And.intro (hM'.le HGW.out.size) (hT'.le HGW.out.size)))
             have HG2 : Hid (Gr wr w2) := Lib.hid ((Gr.refl wr).drew.trans g2)
             obtain ⟨AD', nD', cD', hvD, hnD⟩ : ∃ A n c, vD = .slice A n c ∧ n = rD.length := by
               obtain ⟨A, c, h, -, -⟩ := own_form hd2
               exact ⟨A, _, c, h, rfl⟩
             subst hvD
             have HND := Lib.hid hnD
             clear hv2 hd2 g2 hF' hM' hT' hnD)
          | (refine step_call rfl 19 [.tmp 28, .tmp 32] _ rfl [.agg #[.slice AF s.files.length cF, .slice AM s.mem.length cM, .slice AT s.tabs.length cT, .int .i64 (s.gen : Int), .int .i64 (s.marks : Int)], .agg #[.int .i64 k, .slice Al nl cl]] rfl (cf_act _) HCB.out ?_
             intro v5 w2 h5
             obtain ⟨v2, vD, rfl, hv2, hd2, g2⟩ := h5
             obtain ⟨AF', cF', AM', cM', AT', cT', rfl, hF', hM', hT'⟩ := hv2.six
             have HR2 := Lib.hid (And.intro (hF'.le HLB.out) (And.intro (hM'.le HLB.out) (hT'.le HLB.out)))
             have HG2 : Hid (Gr wr w2) := Lib.hid (HGB.out.trans g2)
             obtain ⟨AD', nD', cD', hvD, hnD⟩ : ∃ A n c, vD = .slice A n c ∧ n = rD.length := by
               obtain ⟨A, c, h, -, -⟩ := own_form hd2
               exact ⟨A, _, c, h, rfl⟩
             subst hvD
             have HND := Lib.hid hnD
             have HB8 := Lib.hid (gr_obj g2 HZ8.out)
             have y0 := obj_cell HB8.out (i := 0) rfl
             have y1 := obj_cell HB8.out (i := 1) rfl
             have y2 := obj_cell HB8.out (i := 2) rfl
             have y3 := obj_cell HB8.out (i := 3) rfl
             have y4 := obj_cell HB8.out (i := 4) rfl
             have f0 := obj_free (i := 0) HB8.out
             have f1 := obj_free (i := 1) HB8.out
             have f2 := obj_free (i := 2) HB8.out
             have f3 := obj_free (i := 3) HB8.out
             have f4 := obj_free (i := 4) HB8.out
             clear hv2 hd2 g2 hF' hM' hT' hnD)
        all_goals
          clear d0 d1 d2 d3 d4 d5 d6 e0 e1 e2 e3 e4 e5 e6 HCA HCB
          go_wp2
          go_meet
          first
            | (have hs := stbox_set (s := ⟨sf, sm, st, sg, sk⟩) HB8.out HR2.out.1 HR2.out.2.1 HR2.out.2.2
               have hg := gr_five HG2.out (Nat.le_refl wr.heap.size) (.slice AF' sf.length cF') (.slice AM' sm.length cM') (.slice AT' st.length cT') (.int .i64 (sg : Int)) (.int .i64 (sk : Int))
               unfold five at hs hg
               exact ⟨wr.heap.size, AF', cF', AM', cM', AT', cT', AD', nD', cD', rfl, rfl, rfl, Lib.hid ⟨HND.out, hs, hg⟩⟩)
            | (have hs := stbox_new (s := ⟨sf, sm, st, sg, sk⟩) HR2.out.1 HR2.out.2.1 HR2.out.2.2
               exact ⟨w2.heap.size, AF', cF', AM', cM', AT', cT', AD', nD', cD', rfl, rfl, rfl, Lib.hid ⟨HND.out, hs, HG2.out.alloc _⟩⟩)
      case rest =>
        obtain ⟨b8, AF', cF', AM', cM', AT', cT', AD', nD', cD', rfl, rfl, rfl, HC⟩ := hcut
        clear HCA HCB HZ8 HLB HGB
        have HB8 := Lib.hid HC.out.2.1
        have HBO := Lib.hid (gr_obj HC.out.2.2 HSB.out.1)
        have HGC := Lib.hid (HGW.out.trans HC.out.2.2)
        have HQC := Lib.hid (HC.out.2.2.cell HQ0.out)
        have HLO := Lib.hid (fun w1 (q : Gr wc w1) => loose_any (.slice AF' sf.length cF') sf w1 (HC.out.2.1.2.1.gr q).fv)
        have HCG := Lib.hid HC.out.2.2
        have hjc : j ≤ 600 := by omega
        by_cases hre : re = 0
        case neg =>
          have hne : (actR s k l).2.2 ≠ 0 := fun e => by
            have h := HRR.out
            rw [topR_yes e] at h
            rw [← h] at e
            exact hre e
          have h := HRR.out
          rw [topR_no hne] at h
          injection h with h1 h2
          injection h1 with e1 e2 e3 e4 e5
          injection h2 with e6 e7
          have hnD : nD' = 0 := by rw [HC.out.1, e6]; rfl
          subst hnD e1
          have t0 : ((re : Int) == 0) = false := by rw [beq_eq_false_iff_ne]; omega
          have t1 : ¬ ((re : Int) = 0) := by omega
          have HSI2 := Lib.hid (HSI.out.mono (Nat.le_succ j))
          have HS3 := Lib.hid (HSB.out.gr HC.out.2.2)
          have x0 : wc.cell? ⟨b8, 0, none⟩ = some (.slice AF' 0 cF') := obj_cell HB8.out.1 (i := 0) rfl
          clear e2 e3 e4 e5 e6 e7 hne hre HC
          go_wp2_with fail
          go_roundg (n - (j + 1))
          case measure => omega
          case rel => exact ⟨j + 1, by go_num, by omega, Nat.le_refl _, Lib.hid ⟨s, R, Q, nn, AF, cF, AM, cM, AT, cT, HSI2.out, HS3.out, HGC.out⟩⟩
        subst hre
        have hz : (actR s k l).2.2 = 0 := by
          by_cases e : (actR s k l).2.2 = 0
          · exact e
          · have h := HRR.out
            rw [topR_no e] at h
            injection h with h1 h2
            injection h2 with h3 h4
            exact h4.symm
        have heq : (actR s k l).1 = ⟨sf, sm, st, sg, sk⟩ := by
          have h := HRR.out
          rw [topR_yes hz] at h
          rw [← h]
        have hnx := act_next HSI.out hjc k l hz
        rw [heq] at hnx
        have HNX := Lib.hid hnx.1
        have HSN := Lib.hid hnx.2
        have hmem : s.mem.length ≤ 1024 := HSI.out.memL
        have htabs : s.tabs.length ≤ 16 := HSI.out.few
        have hgens : s.gen ≤ 600 := Nat.le_trans HSI.out.gen (Nat.le_trans HSI.out.le hjc)
        obtain ⟨kk, hkk⟩ : ∃ x, x = kindN k := ⟨_, rfl⟩
        have hk4 : kk < 4 := by rw [hkk]; exact kindN_lt k
        have HKK := Lib.hid hkk
        rw [← hkk] at HKN
        have q0 := HQC.out
        clear hz heq hnx hkk HC
        obtain rfl | rfl | rfl | rfl : kk = 0 ∨ kk = 1 ∨ kk = 2 ∨ kk = 3 := by omega
        · clear hmem htabs hgens hk4
          go_wp2_with fail
          refine (HKN.out _).mono ?_
          rintro e w5 ⟨rfl, rfl⟩
          have x0 := obj_cell HB8.out.1 (i := 0) rfl
          have x1 := obj_cell HB8.out.1 (i := 1) rfl
          have x2 := obj_cell HB8.out.1 (i := 2) rfl
          have x3 := obj_cell HB8.out.1 (i := 3) rfl
          have x4 := obj_cell HB8.out.1 (i := 4) rfl
          have y0 := obj_cell HBO.out (i := 0) rfl
          have y1 := obj_cell HBO.out (i := 1) rfl
          have y2 := obj_cell HBO.out (i := 2) rfl
          have y3 := obj_cell HBO.out (i := 3) rfl
          have y4 := obj_cell HBO.out (i := 4) rfl
          have f0 := obj_free (i := 0) HBO.out
          have f1 := obj_free (i := 1) HBO.out
          have f2 := obj_free (i := 2) HBO.out
          have f3 := obj_free (i := 3) HBO.out
          have f4 := obj_free (i := 4) HBO.out
          go_wp2_with fail
          go_roundg (n - (j + 1))
          case measure => omega
          case rel =>
            have hs := stbox_set (s := ⟨sf, sm, st, sg, sk⟩) HBO.out HB8.out.2.1 HB8.out.2.2.1 HB8.out.2.2.2
            have hg := gr_five HGC.out HB3.out (.slice AF' sf.length cF') (.slice AM' sm.length cM') (.slice AT' st.length cT') (.int .i64 (sg : Int)) (.int .i64 (sk : Int))
            unfold five at hs hg
            obtain ⟨R', Q', n', hsi'⟩ := HSN.out
            exact ⟨j + 1, by go_num, by omega, Nat.le_refl _, Lib.hid ⟨⟨sf, sm, st, sg, sk⟩, R', Q', n', AF', cF', AM', cM', AT', cT', hsi', hs, hg⟩⟩
        · have HL1 := Lib.hid (HNX.out.safe HKK.out.symm)
          have hl1 := HL1.out
          dsimp only at hl1
          rw [hl1] at HLO
          clear hmem htabs hgens hk4 hl1
          go_wp2_with fail
          refine (HKN.out _).mono ?_
          rintro e w5 ⟨rfl, rfl⟩
          have x0 := obj_cell HB8.out.1 (i := 0) rfl
          have x1 := obj_cell HB8.out.1 (i := 1) rfl
          have x2 := obj_cell HB8.out.1 (i := 2) rfl
          have x3 := obj_cell HB8.out.1 (i := 3) rfl
          have x4 := obj_cell HB8.out.1 (i := 4) rfl
          have y0 := obj_cell HBO.out (i := 0) rfl
          have y1 := obj_cell HBO.out (i := 1) rfl
          have y2 := obj_cell HBO.out (i := 2) rfl
          have y3 := obj_cell HBO.out (i := 3) rfl
          have y4 := obj_cell HBO.out (i := 4) rfl
          have f0 := obj_free (i := 0) HBO.out
          have f1 := obj_free (i := 1) HBO.out
          have f2 := obj_free (i := 2) HBO.out
          have f3 := obj_free (i := 3) HBO.out
          have f4 := obj_free (i := 4) HBO.out
          go_wp2_with fail
          refine (HLO.out _ (Gr.refl _)).mono ?_
          rintro e w6 ⟨rfl, g6⟩
          have HB86 := Lib.hid (HB8.out.gr g6)
          have HB36 := Lib.hid (gr_obj g6 HBO.out)
          have HG6 := Lib.hid (HGC.out.trans g6)
          clear x0 x1 x2 x3 x4 y0 y1 y2 y3 y4 f0 f1 f2 f3 f4 g6
          have x0 := obj_cell HB86.out.1 (i := 0) rfl
          have x1 := obj_cell HB86.out.1 (i := 1) rfl
          have x2 := obj_cell HB86.out.1 (i := 2) rfl
          have x3 := obj_cell HB86.out.1 (i := 3) rfl
          have x4 := obj_cell HB86.out.1 (i := 4) rfl
          have y0 := obj_cell HB36.out (i := 0) rfl
          have y1 := obj_cell HB36.out (i := 1) rfl
          have y2 := obj_cell HB36.out (i := 2) rfl
          have y3 := obj_cell HB36.out (i := 3) rfl
          have y4 := obj_cell HB36.out (i := 4) rfl
          have f0 := obj_free (i := 0) HB36.out
          have f1 := obj_free (i := 1) HB36.out
          have f2 := obj_free (i := 2) HB36.out
          have f3 := obj_free (i := 3) HB36.out
          have f4 := obj_free (i := 4) HB36.out
          go_wp2_with fail
          go_roundg (n - (j + 1))
          case measure => omega
          case rel =>
            have hs := stbox_set (s := ⟨sf, sm, st, sg, sk⟩) HB36.out HB86.out.2.1 HB86.out.2.2.1 HB86.out.2.2.2
            have hg := gr_five HG6.out HB3.out (.slice AF' sf.length cF') (.slice AM' sm.length cM') (.slice AT' st.length cT') (.int .i64 (sg : Int)) (.int .i64 (sk : Int))
            unfold five at hs hg
            obtain ⟨R', Q', n', hsi'⟩ := HSN.out
            exact ⟨j + 1, by go_num, by omega, Nat.le_refl _, Lib.hid ⟨⟨sf, sm, st, sg, sk⟩, R', Q', n', AF', cF', AM', cM', AT', cT', hsi', hs, hg⟩⟩
        · by_cases hm0 : s.mem.length = 0
          · have hsame := HNX.out.none HKK.out.symm hm0
            rcases hlb : looseB sf with _ | _
            · rw [hlb] at HLO
              have HSF : Hid (s.files = sf) := Lib.hid (by rw [← hsame])
              have HSA := Lib.hid (fun w1 (q : Gr wc w1) => same_any (.slice AF' sf.length cF') (.slice AF s.files.length cF) sf s.files w1 (HB8.out.2.1.gr q).fv (HSB.out.2.1.gr (HCG.out.trans q)).fv)
              rw [sameB_yes HSF.out.symm] at HSA
              have t0 : ¬ ((s.mem.length : Int) > 0) := by omega
              have t1 : ((s.mem.length : Int) = 0) := by omega
              clear hsame hlb hmem htabs hgens hk4 hm0
              go_wp2_with fail
              refine (HKN.out _).mono ?_
              rintro e w5 ⟨rfl, rfl⟩
              have x0 := obj_cell HB8.out.1 (i := 0) rfl
              have x1 := obj_cell HB8.out.1 (i := 1) rfl
              have x2 := obj_cell HB8.out.1 (i := 2) rfl
              have x3 := obj_cell HB8.out.1 (i := 3) rfl
              have x4 := obj_cell HB8.out.1 (i := 4) rfl
              have y0 := obj_cell HBO.out (i := 0) rfl
              have y1 := obj_cell HBO.out (i := 1) rfl
              have y2 := obj_cell HBO.out (i := 2) rfl
              have y3 := obj_cell HBO.out (i := 3) rfl
              have y4 := obj_cell HBO.out (i := 4) rfl
              have f0 := obj_free (i := 0) HBO.out
              have f1 := obj_free (i := 1) HBO.out
              have f2 := obj_free (i := 2) HBO.out
              have f3 := obj_free (i := 3) HBO.out
              have f4 := obj_free (i := 4) HBO.out
              go_wp2_with fail
              refine (HLO.out _ (Gr.refl _)).mono ?_
              rintro e w6 ⟨rfl, g6⟩
              have HB86 := Lib.hid (HB8.out.gr g6)
              have HB36 := Lib.hid (gr_obj g6 HBO.out)
              have HG6 := Lib.hid (HGC.out.trans g6)
              have g66 := Lib.hid g6
              clear x0 x1 x2 x3 x4 y0 y1 y2 y3 y4 f0 f1 f2 f3 f4 g6
              have x0 := obj_cell HB86.out.1 (i := 0) rfl
              have x1 := obj_cell HB86.out.1 (i := 1) rfl
              have x2 := obj_cell HB86.out.1 (i := 2) rfl
              have x3 := obj_cell HB86.out.1 (i := 3) rfl
              have x4 := obj_cell HB86.out.1 (i := 4) rfl
              have y0 := obj_cell HB36.out (i := 0) rfl
              have y1 := obj_cell HB36.out (i := 1) rfl
              have y2 := obj_cell HB36.out (i := 2) rfl
              have y3 := obj_cell HB36.out (i := 3) rfl
              have y4 := obj_cell HB36.out (i := 4) rfl
              have f0 := obj_free (i := 0) HB36.out
              have f1 := obj_free (i := 1) HB36.out
              have f2 := obj_free (i := 2) HB36.out
              have f3 := obj_free (i := 3) HB36.out
              have f4 := obj_free (i := 4) HB36.out
              go_wp2_with fail
              refine (HSA.out _ g66.out).mono ?_
              rintro e w7 ⟨rfl, g7⟩
              go_wp2_with fail
              go_ret
              exact ⟨rfl, HG6.out.trans g7⟩
            · rw [hlb] at HLO
              have t0 : ¬ ((s.mem.length : Int) > 0) := by omega
              clear hsame hlb hmem htabs hgens hk4 hm0
              go_wp2_with fail
              refine (HKN.out _).mono ?_
              rintro e w5 ⟨rfl, rfl⟩
              have x0 := obj_cell HB8.out.1 (i := 0) rfl
              have x1 := obj_cell HB8.out.1 (i := 1) rfl
              have x2 := obj_cell HB8.out.1 (i := 2) rfl
              have x3 := obj_cell HB8.out.1 (i := 3) rfl
              have x4 := obj_cell HB8.out.1 (i := 4) rfl
              have y0 := obj_cell HBO.out (i := 0) rfl
              have y1 := obj_cell HBO.out (i := 1) rfl
              have y2 := obj_cell HBO.out (i := 2) rfl
              have y3 := obj_cell HBO.out (i := 3) rfl
              have y4 := obj_cell HBO.out (i := 4) rfl
              have f0 := obj_free (i := 0) HBO.out
              have f1 := obj_free (i := 1) HBO.out
              have f2 := obj_free (i := 2) HBO.out
              have f3 := obj_free (i := 3) HBO.out
              have f4 := obj_free (i := 4) HBO.out
              go_wp2_with fail
              refine (HLO.out _ (Gr.refl _)).mono ?_
              rintro e w6 ⟨rfl, g6⟩
              have HB86 := Lib.hid (HB8.out.gr g6)
              have HB36 := Lib.hid (gr_obj g6 HBO.out)
              have HG6 := Lib.hid (HGC.out.trans g6)
              clear x0 x1 x2 x3 x4 y0 y1 y2 y3 y4 f0 f1 f2 f3 f4 g6
              have x0 := obj_cell HB86.out.1 (i := 0) rfl
              have x1 := obj_cell HB86.out.1 (i := 1) rfl
              have x2 := obj_cell HB86.out.1 (i := 2) rfl
              have x3 := obj_cell HB86.out.1 (i := 3) rfl
              have x4 := obj_cell HB86.out.1 (i := 4) rfl
              have y0 := obj_cell HB36.out (i := 0) rfl
              have y1 := obj_cell HB36.out (i := 1) rfl
              have y2 := obj_cell HB36.out (i := 2) rfl
              have y3 := obj_cell HB36.out (i := 3) rfl
              have y4 := obj_cell HB36.out (i := 4) rfl
              have f0 := obj_free (i := 0) HB36.out
              have f1 := obj_free (i := 1) HB36.out
              have f2 := obj_free (i := 2) HB36.out
              have f3 := obj_free (i := 3) HB36.out
              have f4 := obj_free (i := 4) HB36.out
              go_wp2_with fail
              go_roundg (n - (j + 1))
              case measure => omega
              case rel =>
                have hs := stbox_set (s := ⟨sf, sm, st, sg, sk⟩) HB36.out HB86.out.2.1 HB86.out.2.2.1 HB86.out.2.2.2
                have hg := gr_five HG6.out HB3.out (.slice AF' sf.length cF') (.slice AM' sm.length cM') (.slice AT' st.length cT') (.int .i64 (sg : Int)) (.int .i64 (sk : Int))
                unfold five at hs hg
                obtain ⟨R', Q', n', hsi'⟩ := HSN.out
                exact ⟨j + 1, by go_num, by omega, Nat.le_refl _, Lib.hid ⟨⟨sf, sm, st, sg, sk⟩, R', Q', n', AF', cF', AM', cM', AT', cT', hsi', hs, hg⟩⟩
          · obtain ⟨hm2, ht2, hg2, hl2⟩ := HNX.out.flush HKK.out.symm hm0
            dsimp only at hm2 ht2 hg2 hl2
            rw [hl2] at HLO
            have t0 : (s.mem.length : Int) > 0 := by omega
            have t1 : ((sm.length : Int) = 0) := by omega
            have t2 : ((st.length : Int) = (s.tabs.length : Int) + 1) := by omega
            have t3 : ((sg : Int) = (s.gen : Int) + 1) := by omega
            have v1 : IntKind.i64.wrap ((s.tabs.length : Int) + 1) = (s.tabs.length : Int) + 1 := by
              rw [IntKind.wrap_i64]
              omega
            have v2 : IntKind.i64.wrap ((s.gen : Int) + 1) = (s.gen : Int) + 1 := by
              rw [IntKind.wrap_i64]
              omega
            clear hm2 ht2 hg2 hl2 hmem htabs hgens hk4 hm0
            go_wp2_with fail
            refine (HKN.out _).mono ?_
            rintro e w5 ⟨rfl, rfl⟩
            have x0 := obj_cell HB8.out.1 (i := 0) rfl
            have x1 := obj_cell HB8.out.1 (i := 1) rfl
            have x2 := obj_cell HB8.out.1 (i := 2) rfl
            have x3 := obj_cell HB8.out.1 (i := 3) rfl
            have x4 := obj_cell HB8.out.1 (i := 4) rfl
            have y0 := obj_cell HBO.out (i := 0) rfl
            have y1 := obj_cell HBO.out (i := 1) rfl
            have y2 := obj_cell HBO.out (i := 2) rfl
            have y3 := obj_cell HBO.out (i := 3) rfl
            have y4 := obj_cell HBO.out (i := 4) rfl
            have f0 := obj_free (i := 0) HBO.out
            have f1 := obj_free (i := 1) HBO.out
            have f2 := obj_free (i := 2) HBO.out
            have f3 := obj_free (i := 3) HBO.out
            have f4 := obj_free (i := 4) HBO.out
            go_wp2_with fail
            refine (HLO.out _ (Gr.refl _)).mono ?_
            rintro e w6 ⟨rfl, g6⟩
            have HB86 := Lib.hid (HB8.out.gr g6)
            have HB36 := Lib.hid (gr_obj g6 HBO.out)
            have HG6 := Lib.hid (HGC.out.trans g6)
            clear t0 t1 t2 t3 v1 v2 x0 x1 x2 x3 x4 y0 y1 y2 y3 y4 f0 f1 f2 f3 f4 g6
            have x0 := obj_cell HB86.out.1 (i := 0) rfl
            have x1 := obj_cell HB86.out.1 (i := 1) rfl
            have x2 := obj_cell HB86.out.1 (i := 2) rfl
            have x3 := obj_cell HB86.out.1 (i := 3) rfl
            have x4 := obj_cell HB86.out.1 (i := 4) rfl
            have y0 := obj_cell HB36.out (i := 0) rfl
            have y1 := obj_cell HB36.out (i := 1) rfl
            have y2 := obj_cell HB36.out (i := 2) rfl
            have y3 := obj_cell HB36.out (i := 3) rfl
            have y4 := obj_cell HB36.out (i := 4) rfl
            have f0 := obj_free (i := 0) HB36.out
            have f1 := obj_free (i := 1) HB36.out
            have f2 := obj_free (i := 2) HB36.out
            have f3 := obj_free (i := 3) HB36.out
            have f4 := obj_free (i := 4) HB36.out
            go_wp2_with fail
            go_roundg (n - (j + 1))
            case measure => omega
            case rel =>
              have hs := stbox_set (s := ⟨sf, sm, st, sg, sk⟩) HB36.out HB86.out.2.1 HB86.out.2.2.1 HB86.out.2.2.2
              have hg := gr_five HG6.out HB3.out (.slice AF' sf.length cF') (.slice AM' sm.length cM') (.slice AT' st.length cT') (.int .i64 (sg : Int)) (.int .i64 (sk : Int))
              unfold five at hs hg
              obtain ⟨R', Q', n', hsi'⟩ := HSN.out
              exact ⟨j + 1, by go_num, by omega, Nat.le_refl _, Lib.hid ⟨⟨sf, sm, st, sg, sk⟩, R', Q', n', AF', cF', AM', cM', AT', cT', hsi', hs, hg⟩⟩
        · by_cases ht2 : 2 ≤ s.tabs.length
          · obtain ⟨h1, h2⟩ := HNX.out.merge HKK.out.symm ht2
            dsimp only at h1 h2
            have t0 : (s.tabs.length : Int) ≥ 2 := by omega
            have t1 : (st.length : Int) = 1 := by omega
            have t2 : (sm.length : Int) = (s.mem.length : Int) := by omega
            clear h1 h2 hmem htabs hgens hk4 ht2
            go_wp2_with fail
            refine (HKN.out _).mono ?_
            rintro e w5 ⟨rfl, rfl⟩
            have x0 := obj_cell HB8.out.1 (i := 0) rfl
            have x1 := obj_cell HB8.out.1 (i := 1) rfl
            have x2 := obj_cell HB8.out.1 (i := 2) rfl
            have x3 := obj_cell HB8.out.1 (i := 3) rfl
            have x4 := obj_cell HB8.out.1 (i := 4) rfl
            have y0 := obj_cell HBO.out (i := 0) rfl
            have y1 := obj_cell HBO.out (i := 1) rfl
            have y2 := obj_cell HBO.out (i := 2) rfl
            have y3 := obj_cell HBO.out (i := 3) rfl
            have y4 := obj_cell HBO.out (i := 4) rfl
            have f0 := obj_free (i := 0) HBO.out
            have f1 := obj_free (i := 1) HBO.out
            have f2 := obj_free (i := 2) HBO.out
            have f3 := obj_free (i := 3) HBO.out
            have f4 := obj_free (i := 4) HBO.out
            go_wp2_with fail
            go_roundg (n - (j + 1))
            case measure => omega
            case rel =>
              have hs := stbox_set (s := ⟨sf, sm, st, sg, sk⟩) HBO.out HB8.out.2.1 HB8.out.2.2.1 HB8.out.2.2.2
              have hg := gr_five HGC.out HB3.out (.slice AF' sf.length cF') (.slice AM' sm.length cM') (.slice AT' st.length cT') (.int .i64 (sg : Int)) (.int .i64 (sk : Int))
              unfold five at hs hg
              obtain ⟨R', Q', n', hsi'⟩ := HSN.out
              exact ⟨j + 1, by go_num, by omega, Nat.le_refl _, Lib.hid ⟨⟨sf, sm, st, sg, sk⟩, R', Q', n', AF', cF', AM', cM', AT', cT', hsi', hs, hg⟩⟩
          · have t0 : ¬ (s.tabs.length : Int) ≥ 2 := by omega
            clear hmem htabs hgens hk4 ht2
            go_wp2_with fail
            refine (HKN.out _).mono ?_
            rintro e w5 ⟨rfl, rfl⟩
            have x0 := obj_cell HB8.out.1 (i := 0) rfl
            have x1 := obj_cell HB8.out.1 (i := 1) rfl
            have x2 := obj_cell HB8.out.1 (i := 2) rfl
            have x3 := obj_cell HB8.out.1 (i := 3) rfl
            have x4 := obj_cell HB8.out.1 (i := 4) rfl
            have y0 := obj_cell HBO.out (i := 0) rfl
            have y1 := obj_cell HBO.out (i := 1) rfl
            have y2 := obj_cell HBO.out (i := 2) rfl
            have y3 := obj_cell HBO.out (i := 3) rfl
            have y4 := obj_cell HBO.out (i := 4) rfl
            have f0 := obj_free (i := 0) HBO.out
            have f1 := obj_free (i := 1) HBO.out
            have f2 := obj_free (i := 2) HBO.out
            have f3 := obj_free (i := 3) HBO.out
            have f4 := obj_free (i := 4) HBO.out
            go_wp2_with fail
            go_roundg (n - (j + 1))
            case measure => omega
            case rel =>
              have hs := stbox_set (s := ⟨sf, sm, st, sg, sk⟩) HBO.out HB8.out.2.1 HB8.out.2.2.1 HB8.out.2.2.2
              have hg := gr_five HGC.out HB3.out (.slice AF' sf.length cF') (.slice AM' sm.length cM') (.slice AT' st.length cT') (.int .i64 (sg : Int)) (.int .i64 (sk : Int))
              unfold five at hs hg
              obtain ⟨R', Q', n', hsi'⟩ := HSN.out
              exact ⟨j + 1, by go_num, by omega, Nat.le_refl _, Lib.hid ⟨⟨sf, sm, st, sg, sk⟩, R', Q', n', AF', cF', AM', cM', AT', cT', hsi', hs, hg⟩⟩
    · go_wp2_with fail
      go_ret
      obtain ⟨s, R, Q, nn, AF, cF, AM, cM, AT, cT, hsi, hst, hgw⟩ := HI.out
      exact ⟨rfl, hgw⟩
end Go.Proofs.YtccjkfccklfjkaaGreatDoor
