/- Walks: the law LsmModel. -/
import Derived.Test.YtlnhbndghnkfmaaGreatDoorZm52
namespace Go.Proofs.YtlnhbndghnkfmaaGreatDoor
open Go.RowKit

theorem less_nil (x : ByteArray) : lessS x ⟨#[]⟩ = false := by
  unfold lessS
  have e : (⟨#[]⟩ : ByteArray).toList = [] := by rw [ByteArray.toList_eq]
  rw [e]
  cases x.toList <;> rfl
theorem held_value {W : List CR} {p : PR} (h : p ∈ liveP (puts [] W)) : liveK W p.key = some p.val := by
  rw [liveP_held] at h
  obtain ⟨c, hc, rfl⟩ := List.mem_map.1 h
  have h1 := look_self (heldL_rising W) hc
  rw [heldL_look] at h1
  show liveK W c.key = some c.val
  cases hl : liveK W c.key with
  | none => rw [hl] at h1; cases h1
  | some v =>
    rw [hl] at h1
    injection h1 with h1
    rw [← h1]
theorem held_there {W : List CR} {key v : ByteArray} (h : liveK W key = some v) : ∃ p ∈ liveP (puts [] W), p.key = key := by
  have h1 := heldL_look W key
  rw [h] at h1
  refine ⟨pairK ⟨key, v, false⟩, ?_, rfl⟩
  rw [liveP_held]
  exact List.mem_map_of_mem (List.mem_of_find?_eq_some h1)
theorem range_below {s : St} {B : List CR} (h : ∀ k, liveK (viewS s) k = liveK B k) : rangeS s ⟨#[]⟩ hiB = belowR (liveP (puts [] B)) := by
  rw [rangeS_held s _ _ h, liveP_held]
  unfold belowR
  rw [List.filter_map]
  congr 2
  funext c
  rw [less_nil]
  rfl
set_option maxRecDepth 100000 in
set_option maxHeartbeats 8000000 in
theorem lsmModel_any (v : Value) (key : ByteArray) (L : List ActC) (w : World) (hv : AV w v L) (hL : ∀ a ∈ L, FitAct a) (hH : Halves w) :
    Calls Tryz.prog 8 #[v, .string key] w fun e w' => e = .returned (.bool true) ∧ Gr w w' := by
  have HAW := Lib.hid (lawake_any w hH)
  have HOP := Lib.hid (fun w1 (q : Gr w w1) => lopen_any (.slice none 0 0) [] w1 (FO.nil w1 0).fv openfit_nil (hH.gr q))
  rw [lopen_start] at HOP
  have HFW := Lib.hid (fun w1 (q : Gr w w1) => few_any v L w1 (hv.gr q))
  have HLF : Hid (∀ a ∈ L.take 40, FitAct a) := Lib.hid (fun a ha => hL a (List.mem_of_mem_take ha))
  have HLN : Hid ((L.take 40).length ≤ 40) := Lib.hid (by rw [List.length_take]; omega)
  obtain ⟨Lf, hLf⟩ : ∃ x, x = L.take 40 := ⟨_, rfl⟩
  rw [← hLf] at HFW HLF HLN
  have HH := Lib.hid hH
  have HV := Lib.hid hv
  obtain ⟨A0, n0, c0, rfl⟩ : ∃ A n c, v = .slice A n c := by
    obtain ⟨A, c, h, _⟩ := hv
    exact ⟨A, _, c, h⟩
  clear hv hL hH hLf
  go_enter Tryz.func8, Tryz.ntmps8
  go_wp2_with fail
  refine HAW.out.mono ?_
  rintro e w1 ⟨rfl, g1⟩
  have HG1 := Lib.hid g1
  clear g1 HAW
  go_wp2_with fail
  refine (HOP.out _ HG1.out).mono ?_
  rintro e w2 ⟨v2, vD2, rfl, hv2, hd2, g2⟩
  obtain ⟨AF, cF, AM, cM, AT, cT, rfl, hF, hM, hT⟩ := hv2.six
  obtain ⟨AD, nD, cD, rfl⟩ : ∃ A n c, vD2 = .slice A n c := by
    obtain ⟨A, c, h, -, -⟩ := own_form hd2
    exact ⟨A, _, c, h⟩
  have HG2 := Lib.hid (HG1.out.trans g2)
  have HST := Lib.hid (stbox_new (hF.le HG1.out.size) (hM.le HG1.out.size) (hT.le HG1.out.size))
  obtain ⟨s0, hs0⟩ : ∃ s, s = st0 := ⟨_, rfl⟩
  rw [← hs0] at HST ⊢
  have HL0 : Hid (∀ x, liveK (viewS s0) x = liveK [] x) := Lib.hid (by rw [hs0]; intro x; rfl)
  have HI0 : Hid (SI s0 [] [] 0 0) := Lib.hid (by rw [hs0]; exact si_start)
  obtain ⟨W3, hW3⟩ : ∃ W, W = w2.alloc (.cells #[.slice AF s0.files.length cF, .slice AM s0.mem.length cM, .slice AT s0.tabs.length cT, .int .i64 (s0.gen : Int), .int .i64 (s0.marks : Int)] 30) := ⟨_, rfl⟩
  rw [← hW3] at HST
  have HG3 : Hid (Gr w W3) := Lib.hid (by rw [hW3]; exact HG2.out.alloc _)
  obtain ⟨b3, hb3⟩ : ∃ b, b = w2.heap.size := ⟨_, rfl⟩
  rw [← hb3] at HST
  have HB3 : Hid (w.heap.size ≤ b3) := Lib.hid (by rw [hb3]; exact HG2.out.size)
  clear hv2 hF hM hT hd2 g2 hs0 HOP
  go_upto_region 4 with (fail)
  rw [← hW3, ← hb3]
  clear hW3 hb3
  go_wp2_with fail
  refine (HFW.out _ HG3.out).mono ?_
  rintro e w4 ⟨u, rfl, hu, rfl⟩
  have hu0 := hu w HV.out
  obtain ⟨AL, cL, rfl, hnc, ⟨hc63, -⟩, -⟩ := id hu0
  have HU := Lib.hid hu0
  obtain ⟨n, hn⟩ : ∃ n, n = Lf.length := ⟨_, rfl⟩
  have HN := Lib.hid hn
  have hn40 : n ≤ 40 := by rw [hn]; exact HLN.out
  rw [← hn] at hnc ⊢
  clear hu hu0 hn HFW
  go_wp2_with fail
  go_loopg [8, 10] (n + 1) (fun kx s8 s10 wr => ∃ (j : Nat), s10 = .int .i64 (j : Int) ∧ j ≤ n ∧ n - j ≤ kx ∧ Hid (∃ s R Q nn AF cF AM cM AT cT B, SI s R Q nn j ∧ StHold wr w.heap.size b3 s AF cF AM cM AT cT ∧ Gr w wr ∧ PO wr w.heap.size s8 (liveP (puts [] B)) ∧ (∀ x, liveK (viewS s) x = liveK B x) ∧ B.length ≤ 64 * j))
  case atStart => exact ⟨0, rfl, Nat.zero_le _, by omega, Lib.hid ⟨s0, _, _, _, _, _, _, _, _, _, [], HI0.out, HST.out, HG3.out, PO.nil _ _, HL0.out, Nat.zero_le _⟩⟩
  case round =>
    obtain ⟨j, rfl, hj, hkx, HI⟩ := hrel
    by_cases hlt : j < n
    · obtain ⟨s, R, Q, nn, AF, cF, AM, cM, AT, cT, B, hsi, hst, hgw, hpv, hlv, hbl⟩ := HI.out
      have HPV := Lib.hid hpv
      have HLV := Lib.hid hlv
      have HBL := Lib.hid hbl
      have HSI := Lib.hid hsi
      have HSB := Lib.hid hst
      have HGW := Lib.hid hgw
      have hjL : j < Lf.length := by rw [← HN.out]; exact hlt
      obtain ⟨A', c', e1, -, -, e4⟩ := HU.out.gr hgw
      injection e1 with ea eb ec
      subst ea
      obtain ⟨ba, oa, vl, rfl, q0, q1, q2⟩ := e4 j hjL
      obtain ⟨k, hk⟩ : ∃ k, k = Lf[j].kind := ⟨_, rfl⟩
      obtain ⟨l, hl⟩ : ∃ l, l = Lf[j].chs := ⟨_, rfl⟩
      have hfit := HLF.out _ (List.getElem_mem hjL)
      unfold FitAct at hfit
      rw [← hk] at q0
      rw [← hl] at q2 hfit
      obtain ⟨Al, nl, cl, rfl⟩ : ∃ A n c, vl = .slice A n c := by
        obtain ⟨A, c, h, _⟩ := q2
        exact ⟨A, _, c, h⟩
      have hok := si_actok hsi (by omega)
      have HAC := Lib.hid (fun w1 (q : Gr wr w1) => act_any _ (.slice Al nl cl) s k l w1 ((hst.gr q).sto.stv) hok (q2.gr q) hfit.1 hfit.2 (HH.out.gr (hgw.trans q)))
      obtain ⟨r, hr⟩ : ∃ r, r = topR (actR s k l) := ⟨_, rfl⟩
      rw [← hr] at HAC
      have HRR := Lib.hid hr
      have HKN := Lib.hid (fun w1 => kind_any k w1)
      have HQ0 := Lib.hid q0
      have HQ1 := Lib.hid q1
      have HQ2 := Lib.hid q2
      have u0 : (0 : Int) ≤ (j : Int) := by omega
      have u1 : (j : Int) < (n : Int) := by omega
      clear HI hsi hst hgw hpv hlv hbl e4 eb ec hk hl hfit hok hr q2 hjL
      obtain ⟨⟨sf, sm, st, sg, sk⟩, rD, re⟩ := r
      have HAC' : Hid (∀ w1, Gr wr w1 → Calls Tryz.prog 19 #[.agg #[.slice AF s.files.length cF, .slice AM s.mem.length cM, .slice AT s.tabs.length cT, .int .i64 (s.gen : Int), .int .i64 (s.marks : Int)], .agg #[.int .i64 k, .slice Al nl cl]] w1 fun e w' => ∃ v, e = .returned v ∧ (∃ v2 vD, v = .tuple #[v2, vD, .int .i64 (re : Int)] ∧ StO w' w1.heap.size v2 ⟨sf, sm, st, sg, sk⟩ ∧ OO w' w1.heap.size vD rD ∧ Gr w1 w')) := Lib.hid (fun w1 q => (HAC.out w1 q).mono (fun e w' h => by
        obtain ⟨v2, vD, h1, h2, h3, h4⟩ := h
        exact ⟨_, h1, v2, vD, rfl, h2, h3, h4⟩))
      clear HAC
      have HGB : Hid (Gr wr (wr.alloc (.cells #[.slice none 0 0, .slice none 0 0, .slice none 0 0, .int .i64 0, .int .i64 0] 30)).drew) := Lib.hid ((gr_box _ _).trans (Gr.refl _).drew)
      have HLB : Hid (w.heap.size ≤ (wr.alloc (.cells #[.slice none 0 0, .slice none 0 0, .slice none 0 0, .int .i64 0, .int .i64 0] 30)).drew.heap.size) := Lib.hid (Nat.le_trans HGW.out.size HGB.out.size)
      have HZ8 : Hid ((wr.alloc (.cells #[.slice none 0 0, .slice none 0 0, .slice none 0 0, .int .i64 0, .int .i64 0] 30)).drew.heap[wr.heap.size]? = some (.cells #[.slice none 0 0, .slice none 0 0, .slice none 0 0, .int .i64 0, .int .i64 0] 30 (0, 0))) := Lib.hid (gr_obj (Gr.refl _).drew (heap_alloc_new wr _))
      have HCA := Lib.hid (HAC'.out wr.drew (Gr.refl _).drew)
      have HCB := Lib.hid (HAC'.out (wr.alloc (.cells #[.slice none 0 0, .slice none 0 0, .slice none 0 0, .int .i64 0, .int .i64 0] 30)).drew HGB.out)
      clear HAC'
      go_upto_region 9 with (fail)
      go_cut [11, 12, 13] (fun s8 s9 s10 wx => ∃ b8 AF' cF' AM' cM' AT' cT' AD' nD' cD', s8 = .pointer (some ⟨b8, 0, none⟩) ∧ s9 = .slice AD' nD' cD' ∧ s10 = .int .i64 (re : Int) ∧ Hid (nD' = rD.length ∧ StHold wx w.heap.size b8 ⟨sf, sm, st, sg, sk⟩ AF' cF' AM' cM' AT' cT' ∧ Gr wr wx))
      case first =>
        have hob := gr_obj (Gr.refl wr).drew HSB.out.1
        have d0 := obj_cell hob (i := 0) rfl
        have d1 := obj_cell hob (i := 1) rfl
        have d2 := obj_cell hob (i := 2) rfl
        have d3 := obj_cell hob (i := 3) rfl
        have d4 := obj_cell hob (i := 4) rfl
        have d5 := (Gr.refl wr).drew.cell q0
        have d6 := (Gr.refl wr).drew.cell q1
        have hoc := gr_obj (gr_box wr (.cells #[.slice none 0 0, .slice none 0 0, .slice none 0 0, .int .i64 0, .int .i64 0] 30)) HSB.out.1
        have e0 := obj_cell hoc (i := 0) rfl
        have e1 := obj_cell hoc (i := 1) rfl
        have e2 := obj_cell hoc (i := 2) rfl
        have e3 := obj_cell hoc (i := 3) rfl
        have e4 := obj_cell hoc (i := 4) rfl
        have e5 := (gr_box wr (.cells #[.slice none 0 0, .slice none 0 0, .slice none 0 0, .int .i64 0, .int .i64 0] 30)).cell q0
        have e6 := (gr_box wr (.cells #[.slice none 0 0, .slice none 0 0, .slice none 0 0, .int .i64 0, .int .i64 0] 30)).cell q1
        clear hob hoc
        go_region_law
          first
          | (refine step_call rfl 19 [.tmp 36, .tmp 40] _ rfl [.agg #[.slice AF s.files.length cF, .slice AM s.mem.length cM, .slice AT s.tabs.length cT, .int .i64 (s.gen : Int), .int .i64 (s.marks : Int)], .agg #[.int .i64 k, .slice Al nl cl]] rfl (cf_act _) HCA.out ?_
             intro v5 w2 h5
             obtain ⟨v2, vD, rfl, hv2, hd2, g2⟩ := h5
             obtain ⟨AF', cF', AM', cM', AT', cT', rfl, hF', hM', hT'⟩ := hv2.six
             have HR2 := Lib.hid (And.intro (hF'.le HGW.out.size) (And.intro (hM'.le HGW.out.size) (hT'.le HGW.out.size)))
             have HG2 : Hid (Gr wr w2) := Lib.hid ((Gr.refl wr).drew.trans g2)
             obtain ⟨AD', nD', cD', hvD, hnD⟩ : ∃ A n c, vD = .slice A n c ∧ n = rD.length := by
               obtain ⟨A, c, h, -, -⟩ := own_form hd2
               exact ⟨A, _, c, h, rfl⟩
             subst hvD
             have HND := Lib.hid hnD
             clear hv2 hd2 g2 hF' hM' hT' hnD)
          | (refine step_call rfl 19 [.tmp 36, .tmp 40] _ rfl [.agg #[.slice AF s.files.length cF, .slice AM s.mem.length cM, .slice AT s.tabs.length cT, .int .i64 (s.gen : Int), .int .i64 (s.marks : Int)], .agg #[.int .i64 k, .slice Al nl cl]] rfl (cf_act _) HCB.out ?_
             intro v5 w2 h5
             obtain ⟨v2, vD, rfl, hv2, hd2, g2⟩ := h5
             obtain ⟨AF', cF', AM', cM', AT', cT', rfl, hF', hM', hT'⟩ := hv2.six
             have HR2 := Lib.hid (And.intro (hF'.le HLB.out) (And.intro (hM'.le HLB.out) (hT'.le HLB.out)))
             have HG2 : Hid (Gr wr w2) := Lib.hid (HGB.out.trans g2)
             obtain ⟨AD', nD', cD', hvD, hnD⟩ : ∃ A n c, vD = .slice A n c ∧ n = rD.length := by
               obtain ⟨A, c, h, -, -⟩ := own_form hd2
               exact ⟨A, _, c, h, rfl⟩
             subst hvD
             have HND := Lib.hid hnD
             have HB8 := Lib.hid (gr_obj g2 HZ8.out)
             have y0 := obj_cell HB8.out (i := 0) rfl
             have y1 := obj_cell HB8.out (i := 1) rfl
             have y2 := obj_cell HB8.out (i := 2) rfl
             have y3 := obj_cell HB8.out (i := 3) rfl
             have y4 := obj_cell HB8.out (i := 4) rfl
             have f0 := obj_free (i := 0) HB8.out
             have f1 := obj_free (i := 1) HB8.out
             have f2 := obj_free (i := 2) HB8.out
             have f3 := obj_free (i := 3) HB8.out
             have f4 := obj_free (i := 4) HB8.out
             clear hv2 hd2 g2 hF' hM' hT' hnD)
        all_goals
          clear d0 d1 d2 d3 d4 d5 d6 e0 e1 e2 e3 e4 e5 e6 HCA HCB
          go_wp2
          go_meet
          first
            | (have hs := stbox_set (s := ⟨sf, sm, st, sg, sk⟩) HB8.out HR2.out.1 HR2.out.2.1 HR2.out.2.2
               have hg := gr_five HG2.out (Nat.le_refl wr.heap.size) (.slice AF' sf.length cF') (.slice AM' sm.length cM') (.slice AT' st.length cT') (.int .i64 (sg : Int)) (.int .i64 (sk : Int))
               unfold five at hs hg
               exact ⟨wr.heap.size, AF', cF', AM', cM', AT', cT', AD', nD', cD', rfl, rfl, rfl, Lib.hid ⟨HND.out, hs, hg⟩⟩)
            | (have hs := stbox_new (s := ⟨sf, sm, st, sg, sk⟩) HR2.out.1 HR2.out.2.1 HR2.out.2.2
               exact ⟨w2.heap.size, AF', cF', AM', cM', AT', cT', AD', nD', cD', rfl, rfl, rfl, Lib.hid ⟨HND.out, hs, HG2.out.alloc _⟩⟩)
      case rest =>
        obtain ⟨b8, AF', cF', AM', cM', AT', cT', AD', nD', cD', rfl, rfl, rfl, HC⟩ := hcut
        clear HCA HCB HZ8 HLB HGB
        have HB8 := Lib.hid HC.out.2.1
        have HBO := Lib.hid (gr_obj HC.out.2.2 HSB.out.1)
        have HGC := Lib.hid (HGW.out.trans HC.out.2.2)
        have HQC := Lib.hid (HC.out.2.2.cell HQ0.out)
        have HQ1C := Lib.hid (HC.out.2.2.cell HQ1.out)
        have HQ2C := Lib.hid (HQ2.out.gr HC.out.2.2)
        have HPC := Lib.hid (HPV.out.gr HC.out.2.2)
        have HCG := Lib.hid HC.out.2.2
        have hjc : j ≤ 600 := by omega
        by_cases hre : re = 0
        case neg =>
          have hne : (actR s k l).2.2 ≠ 0 := fun e => by
            have h := HRR.out
            rw [topR_yes e] at h
            rw [← h] at e
            exact hre e
          have t0 : ((re : Int) == 0) = false := by rw [beq_eq_false_iff_ne]; omega
          have t1 : ¬ ((re : Int) = 0) := by omega
          have HSI2 := Lib.hid (HSI.out.mono (Nat.le_succ j))
          have HS3 := Lib.hid (HSB.out.gr HC.out.2.2)
          have hbl := HBL.out
          clear hne hre HC
          go_wp2_with fail
          go_roundg (n - (j + 1))
          case measure => omega
          case rel => exact ⟨j + 1, by go_num, by omega, Nat.le_refl _, Lib.hid ⟨s, R, Q, nn, AF, cF, AM, cM, AT, cT, B, HSI2.out, HS3.out, HGC.out, HPC.out, HLV.out, by omega⟩⟩
        subst hre
        have hz : (actR s k l).2.2 = 0 := by
          by_cases e : (actR s k l).2.2 = 0
          · exact e
          · have h := HRR.out
            rw [topR_no e] at h
            injection h with h1 h2
            injection h2 with h3 h4
            exact h4.symm
        have heq : (actR s k l).1 = ⟨sf, sm, st, sg, sk⟩ := by
          have h := HRR.out
          rw [topR_yes hz] at h
          rw [← h]
        have hnx := act_next HSI.out hjc k l hz
        have hlive := fun x => act_live HSI.out hjc k l hz x
        rw [heq] at hnx
        rw [heq] at hlive
        have HSN := Lib.hid hnx.2
        have HLIVE := Lib.hid hlive
        have HBZ : Hid (kindN k = 0 → l.length ≤ 64) := Lib.hid (fun e => by
          have h : (writeR s l).2.2 = 0 := by
            unfold actR at hz
            rw [if_neg (by omega), if_neg (by omega), if_neg (by omega)] at hz
            exact hz
          exact (batchE_zero (si_write HSI.out l h).1).2.1)
        obtain ⟨kk, hkk⟩ : ∃ x, x = kindN k := ⟨_, rfl⟩
        have hk4 : kk < 4 := by rw [hkk]; exact kindN_lt k
        have HKK := Lib.hid hkk
        rw [← hkk] at HKN HLIVE HBZ
        have q0 := HQC.out
        clear hz heq hnx hkk HC hlive
        have HSZ : Hid (w.heap.size ≤ wc.heap.size) := Lib.hid HGC.out.size
        have HBL2 := Lib.hid HBL.out
        have HMD : Hid (kk = 0 → ∀ w1, Gr wc w1 → Calls Tryz.prog 28 #[u8, .slice Al nl cl] w1 fun e w' => ∃ u, e = .returned u ∧ (PO w' w.heap.size u (liveP (puts [] (B ++ l))) ∧ Gr w1 w')) := Lib.hid (fun e w1 q => (models_any u8 (.slice Al nl cl) (puts [] B) l w1 w.heap.size (Nat.le_trans HSZ.out q.size) (HPC.out.gr q) (puts_rising B rising_nil) (HQ2C.out.gr q) (by
          have h1 := puts_len [] B
          have h2 := HBZ.out e
          have h3 := HBL2.out
          simp only [List.length_nil] at h1
          omega)).mono (fun e w' h => by
            obtain ⟨u, h1, h2, h3⟩ := h
            rw [← puts_append] at h2
            exact ⟨u, h1, h2, h3⟩))
        have HNL : Hid (kk ≠ 0 → ∀ x, liveK (viewS ⟨sf, sm, st, sg, sk⟩) x = liveK B x) := Lib.hid (fun e x => by rw [HLIVE.out x, if_neg e, List.append_nil, HLV.out x])
        obtain rfl | rfl | rfl | rfl : kk = 0 ∨ kk = 1 ∨ kk = 2 ∨ kk = 3 := by omega
        · have HM0 := Lib.hid (HMD.out rfl _ (Gr.refl _))
          have HY : Hid (∀ x, liveK (viewS ⟨sf, sm, st, sg, sk⟩) x = liveK (B ++ l) x) := Lib.hid (fun x => by rw [HLIVE.out x, if_pos rfl]; exact liveK_congr (HLV.out x) l)
          have HZ : Hid ((B ++ l).length ≤ 64 * (j + 1)) := Lib.hid (by
            rw [List.length_append]
            have h2 := HBZ.out rfl
            have h3 := HBL2.out
            omega)
          have q1 := HQ1C.out
          clear hk4 HMD HNL
          go_wp2_with fail
          refine (HKN.out _).mono ?_
          rintro e w5 ⟨rfl, rfl⟩
          go_wp2_with fail
          refine HM0.out.mono ?_
          rintro e w6 ⟨u, rfl, hb6⟩
          have HB6 := Lib.hid hb6
          have HB86 := Lib.hid (HB8.out.gr hb6.2)
          have HB36 := Lib.hid (gr_obj hb6.2 HBO.out)
          have HG6 := Lib.hid (HGC.out.trans hb6.2)
          clear hb6 q0 q1
          have x0 := obj_cell HB86.out.1 (i := 0) rfl
          have x1 := obj_cell HB86.out.1 (i := 1) rfl
          have x2 := obj_cell HB86.out.1 (i := 2) rfl
          have x3 := obj_cell HB86.out.1 (i := 3) rfl
          have x4 := obj_cell HB86.out.1 (i := 4) rfl
          have y0 := obj_cell HB36.out (i := 0) rfl
          have y1 := obj_cell HB36.out (i := 1) rfl
          have y2 := obj_cell HB36.out (i := 2) rfl
          have y3 := obj_cell HB36.out (i := 3) rfl
          have y4 := obj_cell HB36.out (i := 4) rfl
          have f0 := obj_free (i := 0) HB36.out
          have f1 := obj_free (i := 1) HB36.out
          have f2 := obj_free (i := 2) HB36.out
          have f3 := obj_free (i := 3) HB36.out
          have f4 := obj_free (i := 4) HB36.out
          go_wp2_with fail
          go_roundg (n - (j + 1))
          case measure => omega
          case rel =>
            have hs := stbox_set (s := ⟨sf, sm, st, sg, sk⟩) HB36.out HB86.out.2.1 HB86.out.2.2.1 HB86.out.2.2.2
            have hg := gr_five HG6.out HB3.out (.slice AF' sf.length cF') (.slice AM' sm.length cM') (.slice AT' st.length cT') (.int .i64 (sg : Int)) (.int .i64 (sk : Int))
            have hp := own_five HB6.out.1 (⟨_, HB36.out⟩ : BoxAt w6 b3 30) (by decide) (.slice AF' sf.length cF') (.slice AM' sm.length cM') (.slice AT' st.length cT') (.int .i64 (sg : Int)) (.int .i64 (sk : Int))
            unfold five at hs hg hp
            obtain ⟨R', Q', n', hsi'⟩ := HSN.out
            exact ⟨j + 1, by go_num, by omega, Nat.le_refl _, Lib.hid ⟨⟨sf, sm, st, sg, sk⟩, R', Q', n', AF', cF', AM', cM', AT', cT', B ++ l, hsi', hs, hg, hp, HY.out, HZ.out⟩⟩
        all_goals
          have HY := Lib.hid (HNL.out (by decide))
          have HZ : Hid (B.length ≤ 64 * (j + 1)) := Lib.hid (by have h3 := HBL2.out; omega)
          have HB86 := HB8
          have HB36 := HBO
          have HG6 := HGC
          clear hk4 HMD HNL
          go_wp2_with fail
          refine (HKN.out _).mono ?_
          rintro e w5 ⟨rfl, rfl⟩
          clear q0
          have x0 := obj_cell HB86.out.1 (i := 0) rfl
          have x1 := obj_cell HB86.out.1 (i := 1) rfl
          have x2 := obj_cell HB86.out.1 (i := 2) rfl
          have x3 := obj_cell HB86.out.1 (i := 3) rfl
          have x4 := obj_cell HB86.out.1 (i := 4) rfl
          have y0 := obj_cell HB36.out (i := 0) rfl
          have y1 := obj_cell HB36.out (i := 1) rfl
          have y2 := obj_cell HB36.out (i := 2) rfl
          have y3 := obj_cell HB36.out (i := 3) rfl
          have y4 := obj_cell HB36.out (i := 4) rfl
          have f0 := obj_free (i := 0) HB36.out
          have f1 := obj_free (i := 1) HB36.out
          have f2 := obj_free (i := 2) HB36.out
          have f3 := obj_free (i := 3) HB36.out
          have f4 := obj_free (i := 4) HB36.out
          go_wp2_with fail
          go_roundg (n - (j + 1))
          case measure => omega
          case rel =>
            have hs := stbox_set (s := ⟨sf, sm, st, sg, sk⟩) HB36.out HB86.out.2.1 HB86.out.2.2.1 HB86.out.2.2.2
            have hg := gr_five HG6.out HB3.out (.slice AF' sf.length cF') (.slice AM' sm.length cM') (.slice AT' st.length cT') (.int .i64 (sg : Int)) (.int .i64 (sk : Int))
            have hp := own_five HPC.out (⟨_, HB36.out⟩ : BoxAt wc b3 30) (by decide) (.slice AF' sf.length cF') (.slice AM' sm.length cM') (.slice AT' st.length cT') (.int .i64 (sg : Int)) (.int .i64 (sk : Int))
            unfold five at hs hg hp
            obtain ⟨R', Q', n', hsi'⟩ := HSN.out
            exact ⟨j + 1, by go_num, by omega, Nat.le_refl _, Lib.hid ⟨⟨sf, sm, st, sg, sk⟩, R', Q', n', AF', cF', AM', cM', AT', cT', B, hsi', hs, hg, hp, HY.out, HZ.out⟩⟩
    · obtain ⟨s, R, Q, nn, AF, cF, AM, cM, AT, cT, B, hsi, hst, hgw, hpv, hlv, hbl⟩ := HI.out
      have hge : ¬ ((j : Int) < (n : Int)) := by omega
      have HSI := Lib.hid hsi
      have HSB := Lib.hid hst
      have HGW := Lib.hid hgw
      have HPV := Lib.hid hpv
      have HLV := Lib.hid hlv
      have hlen : (liveP (puts [] B)).length ≤ 1000000000 := by
        have h1 := liveP_len (puts [] B)
        have h2 := puts_len [] B
        simp only [List.length_nil] at h2
        omega
      have hml := hsi.memL
      have hfw := hsi.few
      have HRA := Lib.hid (lrange_any _ s ⟨#[]⟩ hiB wr hst.sto.stv (si_ok hsi (by omega)) (by omega) (by omega) (HH.out.gr hgw))
      rw [range_below hlv] at HRA
      have HBE := Lib.hid (fun w1 (q : Gr wr w1) => below_any u8 (liveP (puts [] B)) w1 (hpv.gr q).pv hlen)
      have HGE := Lib.hid (fun w1 (q : Gr wr w1) => lget_any _ s w.heap.size key w1 (hst.gr q).sto (si_ok hsi (by omega)).fit (fun x hx => by have := si_small hsi x hx; omega) (HH.out.gr (hgw.trans q)))
      rw [getS_live hsi key, hlv key] at HGE
      obtain ⟨lk, hlk⟩ : ∃ x, x = liveK B key := ⟨_, rfl⟩
      rw [← hlk] at HGE
      unfold gotV at HGE
      have HLK := Lib.hid hlk
      clear hlk
      have d0 := obj_cell hst.1 (i := 0) rfl
      have d1 := obj_cell hst.1 (i := 1) rfl
      have d2 := obj_cell hst.1 (i := 2) rfl
      have d3 := obj_cell hst.1 (i := 3) rfl
      have d4 := obj_cell hst.1 (i := 4) rfl
      unfold hiB at HRA
      clear HI hsi hst hgw hpv hlv hbl hml hfw
      go_wp2_with fail
      refine HRA.out.mono ?_
      rintro e w5 ⟨u, rfl, hu, g5⟩
      have HU5 := Lib.hid hu
      have HG5 := Lib.hid g5
      clear hu g5 d0 d1 d2 d3 d4
      go_wp2_with fail
      refine (HBE.out _ HG5.out).mono ?_
      rintro e w6 ⟨u6, rfl, hu6, g6⟩
      have HSA := Lib.hid (psame_any u u6 _ _ w6 (HU5.out.gr g6).pv hu6.pv)
      rw [psameB_yes rfl] at HSA
      have HG6 := Lib.hid (HG5.out.trans g6)
      clear hu6 g6
      go_wp2_with fail
      refine HSA.out.mono ?_
      rintro e w7 ⟨rfl, g7⟩
      have HG7 := Lib.hid (HG6.out.trans g7)
      have HS7 := Lib.hid (HSB.out.gr HG7.out)
      have d0 := obj_cell HS7.out.1 (i := 0) rfl
      have d1 := obj_cell HS7.out.1 (i := 1) rfl
      have d2 := obj_cell HS7.out.1 (i := 2) rfl
      have d3 := obj_cell HS7.out.1 (i := 3) rfl
      have d4 := obj_cell HS7.out.1 (i := 4) rfl
      have HP7 := Lib.hid ((HPV.out.gr HG7.out).pv)
      clear g7
      have HGR7 := Lib.hid (HGW.out.trans HG7.out)
      obtain ⟨Ah, ch, rfl, hb1, ⟨hb2, -⟩, hb3⟩ := HP7.out
      unfold maxLen at hb2
      obtain ⟨L, hL⟩ : ∃ L, L = liveP (puts [] B) := ⟨_, rfl⟩
      rw [← hL] at hb1 hb3 ⊢
      obtain ⟨m, hm⟩ : ∃ m, m = L.length := ⟨_, rfl⟩
      rw [← hm] at hb1 ⊢
      have HL := Lib.hid hL
      have HM := Lib.hid hm
      have HB := Lib.hid hb3
      clear HP7 hL hm hb3
      rcases lk with _ | x
      · have HN : Hid (∀ j (hj : j < L.length), (L[j].key.toList == key.toList) = false) := Lib.hid fun j hj => by
          have h1 := held_value (W := B) (p := L[j]) (by rw [← HL.out]; exact List.getElem_mem hj)
          rw [Bool.eq_false_iff]
          intro e
          have e2 : L[j].key = key := eqS_iff.1 e
          rw [e2, ← HLK.out] at h1
          cases h1
        simp only [Option.getD_none, Option.isSome_none] at HGE
        obtain ⟨ee, hee⟩ : ∃ x, x = (⟨#[]⟩ : ByteArray) := ⟨_, rfl⟩
        rw [← hee] at HGE
        have hem : ee.toList = [] := by rw [hee, ByteArray.toList_eq]
        have hemt : ee.toList.isEmpty = true := by rw [hem]; rfl
        clear hee
        go_wp2_with fail
        refine (HGE.out _ HG7.out).mono ?_
        rintro e w8 ⟨rfl, g8⟩
        have HG8 := Lib.hid g8
        clear g8 d0 d1 d2 d3 d4
        go_wp2_with fail
        go_loopw [17, 18] (fun f i wz => ∃ j : Nat, j ≤ m ∧ i = .int .i64 j ∧ f = .bool false ∧ Gr w8 wz) (fun _ i _ => m - (intOf i).toNat)
        case atStart => exact ⟨0, Nat.zero_le _, rfl, rfl, Gr.refl _⟩
        case round =>
          obtain ⟨j, hj, rfl, rfl, hgz⟩ := hrel
          rename World => wz
          by_cases hlt : j < m
          · have hjL : j < L.length := by rw [← HM.out]; exact hlt
            obtain ⟨b, off, rfl, hc⟩ := HB.out j hjL
            obtain ⟨c0, c1⟩ := hc.gr (HG8.out.trans hgz)
            have he := HN.out j hjL
            have HGZ := Lib.hid hgz
            clear hgz hc
            go_wp2_with fail
            go_roundw
            case measure => simp [intOf]; omega
            case rel => exact ⟨j + 1, by omega, by go_num, rfl, HGZ.out⟩
          · have HGZ := Lib.hid hgz
            clear hgz
            go_wp2_with fail
            go_ret
            exact ⟨rfl, (HGR7.out.trans HG8.out).trans HGZ.out⟩
      · have HV : Hid (∀ j (hj : j < L.length), (L[j].key.toList == key.toList) = true → L[j].val = x) := Lib.hid fun j hj e => by
          have h1 := held_value (W := B) (p := L[j]) (by rw [← HL.out]; exact List.getElem_mem hj)
          have e2 : L[j].key = key := eqS_iff.1 e
          rw [e2, ← HLK.out] at h1
          injection h1 with h1
          exact h1.symm
        have HT : Hid (∃ j, ∃ hj : j < L.length, (L[j].key.toList == key.toList) = true) := Lib.hid (by
          obtain ⟨p, hp, hk⟩ := held_there (W := B) (key := key) HLK.out.symm
          rw [← HL.out] at hp
          obtain ⟨j, hj, rfl⟩ := List.mem_iff_getElem.1 hp
          exact ⟨j, hj, eqS_iff.2 hk⟩)
        have HXX : Hid ((x.toList == x.toList) = true) := Lib.hid (eqS_self x)
        simp only [Option.getD_some, Option.isSome_some] at HGE
        go_wp2_with fail
        refine (HGE.out _ HG7.out).mono ?_
        rintro e w8 ⟨rfl, g8⟩
        have HG8 := Lib.hid g8
        clear g8 d0 d1 d2 d3 d4
        go_wp2_with fail
        go_loopw [17, 18] (fun f i wz => ∃ j : Nat, j ≤ m ∧ i = .int .i64 j ∧ (∃ q : Bool, f = .bool q ∧ Hid (q = false → ∀ k (hk : k < L.length), k < j → (L[k].key.toList == key.toList) = false)) ∧ Gr w8 wz) (fun _ i _ => m - (intOf i).toNat)
        case atStart => exact ⟨0, Nat.zero_le _, rfl, ⟨false, rfl, Lib.hid (fun _ k _ hk => absurd hk (Nat.not_lt_zero _))⟩, Gr.refl _⟩
        case round =>
          obtain ⟨j, hj, rfl, ⟨q, rfl, hq⟩, hgz⟩ := hrel
          rename World => wz
          by_cases hlt : j < m
          · have hjL : j < L.length := by rw [← HM.out]; exact hlt
            obtain ⟨b, off, rfl, hc⟩ := HB.out j hjL
            obtain ⟨c0, c1⟩ := hc.gr (HG8.out.trans hgz)
            have HGZ := Lib.hid hgz
            clear hgz hc
            rcases he : (L[j].key.toList == key.toList) with _ | _
            · have HQ : Hid (q = false → ∀ k (hk : k < L.length), k < j + 1 → (L[k].key.toList == key.toList) = false) := Lib.hid fun e k hk hkj => by
                by_cases e2 : k = j
                · subst e2; exact he
                · exact hq.out e k hk (by omega)
              go_wp2_with fail
              go_roundw
              case measure => simp [intOf]; omega
              case rel => exact ⟨j + 1, by omega, by go_num, ⟨q, rfl, HQ⟩, HGZ.out⟩
            · have hv := HV.out j hjL he
              rw [hv] at c1
              have hxx := HXX.out
              clear hv
              go_wp2_with fail
              go_roundw
              case measure => simp [intOf]; omega
              case rel => exact ⟨j + 1, by omega, by go_num, ⟨true, rfl, Lib.hid (fun e => by cases e)⟩, HGZ.out⟩
          · obtain ⟨y, hy, hye⟩ := HT.out
            rcases q with _ | _
            · exfalso
              have h1 := hq.out rfl y hy (by rw [← HM.out] at hy; omega)
              rw [h1] at hye
              cases hye
            · have HGZ := Lib.hid hgz
              clear hgz hye
              go_wp2_with fail
              go_ret
              exact ⟨rfl, (HGR7.out.trans HG8.out).trans HGZ.out⟩
end Go.Proofs.YtlnhbndghnkfmaaGreatDoor
