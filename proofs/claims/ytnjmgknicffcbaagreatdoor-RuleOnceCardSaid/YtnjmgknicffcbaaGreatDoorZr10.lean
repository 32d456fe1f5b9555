/- Walks: the document's Check of logs. Walks: the program's Check of logs. -/
import Derived.Test.YtnjmgknicffcbaaGreatDoorZr08
import Derived.Test.YtnjmgknicffcbaaGreatDoorZr09
namespace Go.Proofs.YtnjmgknicffcbaaGreatDoor
open Go.RowKit Go.Joins

/-- What Check needs to know of the transactions' numbers and keys. -/
def FitQ (l : LG) : Prop := ∀ i t, i < 8 → t ∈ l i → t.seq < 18446744073709551616 ∧ ∀ o ∈ t.ops, o.key.size ≤ 9223372036854775807
theorem FitL.q {l : LG} (h : FitL l) : FitQ l := fun i t hi ht => ⟨(h.fit i t hi ht).seq, fun o ho => by have := ((h.fit i t hi ht).ops o ho).2.2.1; omega⟩
theorem txE_bad {l : LG} {i k : Nat} {t : TX} (h : ¬ (okTx t ∧ t.origin = (i : Int) ∧ t.seq = k + 1)) : txE l i k t = 80 := by unfold txE; rw [if_neg h]
theorem txE_is {l : LG} {i k : Nat} {t : TX} (h : okTx t ∧ t.origin = (i : Int) ∧ t.seq = k + 1) : txE l i k t = behindE l t := by unfold txE; rw [if_pos h]
theorem checkE_long {l : LG} {i : Nat} (hi : i < 8) (h : 1024 < (l i).length) : checkE l = 2 := by unfold checkE; rw [longB_yes hi h]; rfl
theorem checkE_ok {l : LG} (hl : longB l = false) (h : logsTo l 8 = 0) : checkE l = 0 := by unfold checkE; rw [hl]; exact h

set_option maxRecDepth 100000 in
set_option maxHeartbeats 8000000 in
theorem rcheck9_any (u : Nat → S3) (l : LG) (w : World) (h : LV w u l) (hf : FitQ l) :
    Calls Tryz.prog 23 #[.agg (lcells u)] w fun e w' => e = .returned (.int .i64 (checkE l : Int)) ∧ Gr w w' := by
  obtain ⟨W, hW, hg, hL⟩ : ∃ W, W = w.alloc (.cells (lcells u) 25) ∧ Gr w W ∧ LBox W w.heap.size u := ⟨_, rfl, (Gr.refl w).alloc _, ⟨heap_alloc _ _ _⟩⟩
  have HL := Lib.hid hL
  have HG := Lib.hid hg
  have HX := Lib.hid (h.gr hg)
  have HF := Lib.hid hf
  have HSZ := Lib.hid (rsize_any u l W (h.gr hg))
  have HST := Lib.hid (fun (v : Nat → Nat) w1 (g : Gr W w1) => rstamp_any u l v w1 ((h.gr hg).gr g))
  obtain ⟨l0, l1, l2, l3, l4, l5, l6, l7⟩ := hL.all
  clear hL hg h hf
  go_enter Tryz.func23, Tryz.ntmps23
  go_upto_region 1 with (fail)
  rw [← hW]
  clear hW
  go_wp2_with fail
  refine HSZ.out.mono ?_
  rintro e w1 ⟨rfl, g1⟩
  clear l0 l1 l2 l3 l4 l5 l6 l7
  obtain ⟨bs, hbs⟩ : ∃ b, b = w1.heap.size := ⟨_, rfl⟩
  obtain ⟨W2, hW2, hg2, hv2⟩ : ∃ x, x = w1.alloc (.cells (vcells (sizeV l)) 28) ∧ Gr w1 x ∧ VBox x bs (sizeV l) := ⟨_, rfl, (Gr.refl _).alloc _, by rw [hbs]; exact ⟨heap_alloc _ _ _⟩⟩
  have HG2 := Lib.hid (g1.trans hg2)
  have HV2 := Lib.hid hv2
  clear g1 hg2 hv2
  go_upto_region 2 with (fail)
  rw [← hW2, ← hbs]
  clear hW2 hbs
  go_wp2_with fail
  go_loopw [4] (fun i wr => ∃ k : Nat, k ≤ 8 ∧ i = .int .i64 k ∧ Hid (∀ j, j < k → (l j).length ≤ 1024) ∧ Gr W2 wr) (fun i _ => 8 - (intOf i).toNat)
  case atStart => exact ⟨0, by decide, rfl, Lib.hid (fun j hj => absurd hj (Nat.not_lt_zero _)), Gr.refl _⟩
  case round =>
    obtain ⟨k, hk, rfl, hsh, hgr⟩ := hrel
    rename World => wa
    by_cases hlt : k < 8
    · have hk0 : (0 : Int) ≤ (k : Int) := Int.natCast_nonneg _
      have hk8 : (k : Int) < 8 := by omega
      have hc := (HL.out.gr (HG2.out.trans hgr)).at hlt
      rw [HX.out.len hlt] at hc
      obtain ⟨n, hn⟩ : ∃ n, n = (l k).length := ⟨_, rfl⟩
      rw [← hn] at hc
      have HN := Lib.hid hn
      have HGR := Lib.hid hgr
      clear hgr hn
      by_cases hlong : 1024 < n
      · have HE := Lib.hid (checkE_long (l := l) hlt (by rw [← HN.out]; exact hlong))
        have hlo : (1024 : Int) < (n : Int) := by omega
        go_wp2_with fail
        go_ret
        exact ⟨by rw [HE.out]; rfl, HG.out.trans (HG2.out.trans HGR.out)⟩
      · have HSH : Hid (∀ j, j < k + 1 → (l j).length ≤ 1024) := Lib.hid fun j hj => by
          by_cases q : j = k
          · rw [q, ← HN.out]; omega
          · exact hsh.out j (by omega)
        have hlo : ¬ ((1024 : Int) < (n : Int)) := by omega
        go_wp2_with fail
        go_roundw
        case measure => simp [intOf]; omega
        case rel => exact ⟨k + 1, by omega, by go_num, HSH, HGR.out⟩
    · have HLB : Hid (longB l = false) := Lib.hid (longB_no fun i hi => hsh.out i (by omega))
      have HGA := Lib.hid (HG2.out.trans hgr)
      have HVA := Lib.hid (HV2.out.gr hgr)
      have hge : ¬ ((k : Int) < 8) := by omega
      clear hgr
      go_wp2_with fail
      go_loopw [5] (fun i wr => ∃ k : Nat, k ≤ 8 ∧ i = .int .i64 k ∧ Hid (logsTo l k = 0) ∧ Gr wa wr) (fun i _ => 8 - (intOf i).toNat)
      case atStart => exact ⟨0, by decide, rfl, Lib.hid rfl, Gr.refl _⟩
      case round =>
        obtain ⟨i, hi, rfl, hz, hgi⟩ := hrel
        rename World => wi
        by_cases hi8 : i < 8
        · have hii0 : (0 : Int) ≤ (i : Int) := Int.natCast_nonneg _
          have hii8 : (i : Int) < 8 := by omega
          have hlen := HX.out.len hi8
          have hle := HX.out.le hi8
          obtain ⟨A, hA⟩ : ∃ A, A = (u i).a := ⟨_, rfl⟩
          obtain ⟨n, hn⟩ : ∃ n, n = (l i).length := ⟨_, rfl⟩
          rw [← hn] at hle
          have HA := Lib.hid hA
          have HN := Lib.hid hn
          have HUN : Hid ((u i).n = n) := Lib.hid (by rw [hlen, hn])
          have HCI : Hid (∀ wx, Gr wi wx → wx.cell? ⟨w.heap.size, i, none⟩ = some (.slice A n (u i).c)) := Lib.hid fun wx g => by
            have hc := (HL.out.gr ((HGA.out.trans hgi).trans g)).at hi8
            rw [← hA, hlen, ← hn] at hc
            exact hc
          have HGI := Lib.hid hgi
          clear hgi hA hn hlen
          have hci := HCI.out _ (Gr.refl _)
          go_wp2_with fail
          clear hci
          go_loopw [6] (fun s wr => ∃ k : Nat, k ≤ n ∧ s = .int .i64 k ∧ Hid (logTo l i k = 0) ∧ Gr wi wr) (fun s _ => n - (intOf s).toNat)
          case atStart => exact ⟨0, Nat.zero_le _, rfl, Lib.hid rfl, Gr.refl _⟩
          case round =>
            obtain ⟨d, hd, rfl, hzd, hgd⟩ := hrel
            rename World => wr
            have hci := HCI.out _ hgd
            by_cases hdn : d < n
            · have hdl : d < (l i).length := by rw [← HN.out]; exact hdn
              obtain ⟨b, off, ha, xv, hx0, hx⟩ := (HX.out.gr ((HGA.out.trans HGI.out).trans hgd)).cell hi8 hdl
              rw [← HA.out] at ha
              subst ha
              obtain ⟨t, ht⟩ : ∃ t, t = (l i)[d] := ⟨_, rfl⟩
              rw [← ht] at hx0 hx
              obtain ⟨Ax, cx, rfl⟩ := tov_form hx0
              have hfq := HF.out i t hi8 (by rw [ht]; exact List.getElem_mem hdl)
              have HCK := Lib.hid (fun w1 (g : Gr wr w1) => rcheck8_any t (.slice Ax t.ops.length cx) hfq.1 hfq.2 w1 (hx0.gr g))
              obtain ⟨nx, hnx⟩ : ∃ n, n = t.ops.length := ⟨_, rfl⟩
              rw [← hnx] at hx HCK
              obtain ⟨x0, x1, x2, x3, x4, x5, x6, x7, x8, x9, x10, x11⟩ := hx
              obtain ⟨W5, hW5, hg5, hx5⟩ := xbox wr t (.slice Ax nx cx)
              have HAT : Hid ((l i)[d]? = some t) := Lib.hid (by rw [ht]; exact List.getElem?_eq_getElem hdl)
              have HX5 := Lib.hid hx5
              have HG5 := Lib.hid hg5
              have HGD := Lib.hid hgd
              have hd0 : (0 : Int) ≤ (d : Int) := by omega
              have hd1 : (d : Int) < (n : Int) := by omega
              obtain ⟨p0, p1, p2, p3, p4, p5, p6, p7, p8, p9, p10, p11⟩ := hx5
              clear hx0 hnx hg5 hgd ht hfq
              go_upto_region 14 with (fail)
              rw [← hW5]
              clear hW5 x0 x1 x2 x3 x4 x5 x6 x7 x8 x9 x10 x11 hci
              by_cases hok : okTx t
              case neg =>
                rw [check_no hok] at HCK
                have HE := Lib.hid (checkE_at HLB.out hi8 HAT.out hz.out hzd.out (txE_bad (fun h => hok h.1)) (by decide))
                clear hok
                go_wp2_with fail
                refine (HCK.out _ HG5.out).mono ?_
                rintro e w6 ⟨rfl, g6⟩
                clear p0 p1 p2 p3 p4 p5 p6 p7 p8 p9 p10 p11
                go_wp2_with fail
                go_ret
                exact ⟨by rw [HE.out]; rfl, HG.out.trans (HGA.out.trans (HGI.out.trans (HGD.out.trans (HG5.out.trans g6))))⟩
              rw [check_yes hok] at HCK
              have HOK := Lib.hid hok
              clear hok
              by_cases hor : t.origin = (i : Int)
              case neg =>
                have hb : (t.origin != (i : Int)) = true := bne_iff_ne.2 hor
                have HE := Lib.hid (checkE_at HLB.out hi8 HAT.out hz.out hzd.out (txE_bad (fun h => hor h.2.1)) (by decide))
                go_wp2_with fail
                refine (HCK.out _ HG5.out).mono ?_
                rintro e w6 ⟨rfl, g6⟩
                clear p0 p1 p2 p3 p4 p5 p6 p7 p8 p9 p10 p11
                have HG6 := Lib.hid g6
                obtain ⟨p0, p1, p2, p3, p4, p5, p6, p7, p8, p9, p10, p11⟩ := HX5.out.gr g6
                clear g6
                go_wp2_with fail
                go_ret
                exact ⟨by rw [HE.out]; rfl, HG.out.trans (HGA.out.trans (HGI.out.trans (HGD.out.trans (HG5.out.trans HG6.out))))⟩
              have hb : (t.origin != (i : Int)) = false := by rw [hor]; simp
              have HOR := Lib.hid hor
              clear hor
              have hwr : IntKind.u64.wrap ((d : Int) + 1) = ((d + 1 : Nat) : Int) := by simp [IntKind.wrap, IntKind.bits, IntKind.signed]; omega
              have hws : wrap64 ((d : Int) + 1) = ((d + 1 : Nat) : Int) := by simp [wrap64]; omega
              by_cases hsq : t.seq = d + 1
              case neg =>
                have hb2 : ((t.seq : Int) != ((d + 1 : Nat) : Int)) = true := by rw [bne_iff_ne]; omega
                have hb3 : ((t.seq : Int) != (d : Int) + 1) = true := by rw [bne_iff_ne]; omega
                have HE := Lib.hid (checkE_at HLB.out hi8 HAT.out hz.out hzd.out (txE_bad (fun h => hsq h.2.2)) (by decide))
                go_wp2_with fail
                refine (HCK.out _ HG5.out).mono ?_
                rintro e w6 ⟨rfl, g6⟩
                clear p0 p1 p2 p3 p4 p5 p6 p7 p8 p9 p10 p11
                have HG6 := Lib.hid g6
                obtain ⟨p0, p1, p2, p3, p4, p5, p6, p7, p8, p9, p10, p11⟩ := HX5.out.gr g6
                clear g6
                go_wp2_with fail
                all_goals first | (exfalso; omega) | skip
                go_ret
                exact ⟨by rw [HE.out]; rfl, HG.out.trans (HGA.out.trans (HGI.out.trans (HGD.out.trans (HG5.out.trans HG6.out))))⟩
              have hb2 : ((t.seq : Int) != ((d + 1 : Nat) : Int)) = false := by rw [hsq]; simp
              have hb3 : ((t.seq : Int) != (d : Int) + 1) = false := by rw [hsq]; simp
              have HBE := Lib.hid (txE_is (l := l) ⟨HOK.out, HOR.out, hsq⟩)
              clear hsq
              obtain ⟨r, hr⟩ : ∃ r, r = leqB t.deps (sizeV l) := ⟨_, rfl⟩
              have HLQ := Lib.hid (fun w1 => rleq_any t.deps (sizeV l) w1)
              rw [← hr] at HLQ
              have HR := Lib.hid hr
              obtain ⟨s, hs⟩ : ∃ s, s = stampV l t.deps := ⟨_, rfl⟩
              have HSP := Lib.hid (fun w1 (g : Gr W w1) => HST.out t.deps w1 g)
              rw [← hs] at HSP
              have HSS := Lib.hid hs
              clear hr hs
              go_wp2_with fail
              refine (HCK.out _ HG5.out).mono ?_
              rintro e w6 ⟨rfl, g6⟩
              clear p0 p1 p2 p3 p4 p5 p6 p7 p8 p9 p10 p11
              have HG6 := Lib.hid (HG5.out.trans g6)
              have HX6 := Lib.hid (HX5.out.gr g6)
              have hv6 := HVA.out.gr (HGI.out.trans (HGD.out.trans HG6.out))
              have HV6 := Lib.hid hv6
              obtain ⟨p0, p1, p2, p3, p4, p5, p6, p7, p8, p9, p10, p11⟩ := HX6.out
              obtain ⟨v0, v1, v2, v3, v4, v5, v6, v7⟩ := hv6.all
              clear g6 hv6
              go_wp2_with fail
              all_goals first | (exfalso; omega) | skip
              refine (HLQ.out _).mono ?_
              rintro e w7 ⟨rfl, g7⟩
              clear p0 p1 p2 p3 p4 p5 p6 p7 p8 p9 p10 p11 v0 v1 v2 v3 v4 v5 v6 v7
              have HG7 := Lib.hid (HG6.out.trans g7)
              have HX7 := Lib.hid (HX6.out.gr g7)
              clear g7 hb2 hb3 hb hwr hws
              rcases r with _ | _
              · have HE := Lib.hid (checkE_at HLB.out hi8 HAT.out hz.out hzd.out (HBE.out.trans (behind_yes HR.out.symm)) (by decide))
                go_wp2_with fail
                go_ret
                exact ⟨by rw [HE.out]; rfl, HG.out.trans (HGA.out.trans (HGI.out.trans (HGD.out.trans HG7.out)))⟩
              · go_upto_region 18 with (fail)
                refine qRegion (fun w' => LC w' w.heap.size u ∧ XFix w' wr.heap.size 0 t (.slice Ax nx cx) ∧ Gr w7 w') (by kernel_rfl) (by kernel_rfl) ⟨(HL.out.gr (HGA.out.trans (HGI.out.trans (HGD.out.trans HG7.out)))).lc.gr (Gr.refl _).drew, HX7.out.gr (Gr.refl _).drew, (Gr.refl _).drew⟩ ?_
                iterate 5
                  refine qTake (by kernel_rfl) ?_
                  apply Exists.intro
                  refine ⟨fun wq hq => ?_, ?_⟩
                  · go_light
                    obtain ⟨⟨l0, l1, l2, l3, l4, l5, l6, l7⟩, ⟨p0, p1, p2, p3, p4, p5, p6, p7, p8, p9, p10, p11⟩, -⟩ := hq
                    go_simp
                    try with_reducible rfl
                    done
                  try simp only [Act.put, List.setIfInBounds_toArray, List.set_cons_zero, List.set_cons_succ]
                refine qCall (by kernel_rfl) ?_
                apply Exists.intro
                refine ⟨?_, ?_⟩
                · apply Exists.intro
                  apply Exists.intro
                  refine ⟨fun wq => ?_, fun wq hq => ?_⟩
                  · go_light
                    go_simp
                    exact ⟨rfl, rfl⟩
                  · exact (HSP.out wq (HGA.out.trans (HGI.out.trans (HGD.out.trans (HG7.out.trans hq.2.2))))).mono fun e w'' ⟨he, hg⟩ => ⟨he, hq.1.gr hg, hq.2.1.gr hg, hq.2.2.trans hg⟩
                try simp only [Act.put, List.setIfInBounds_toArray, List.set_cons_zero, List.set_cons_succ]
                iterate 1
                  refine qTake (by kernel_rfl) ?_
                  apply Exists.intro
                  refine ⟨fun wq hq => ?_, ?_⟩
                  · go_light
                    obtain ⟨⟨l0, l1, l2, l3, l4, l5, l6, l7⟩, ⟨p0, p1, p2, p3, p4, p5, p6, p7, p8, p9, p10, p11⟩, -⟩ := hq
                    go_simp
                    try with_reducible rfl
                    done
                  try simp only [Act.put, List.setIfInBounds_toArray, List.set_cons_zero, List.set_cons_succ]
                refine qNil ?_
                rintro w8 ⟨-, -, g8⟩
                have HG8 := Lib.hid (HG7.out.trans g8)
                clear g8
                by_cases hst : t.stamp ≤ s
                · have HE := Lib.hid (checkE_at HLB.out hi8 HAT.out hz.out hzd.out (HBE.out.trans (behind_old HR.out.symm (by rw [← HSS.out]; exact hst))) (by decide))
                  go_wp2_with fail
                  go_ret
                  exact ⟨by rw [HE.out]; rfl, HG.out.trans (HGA.out.trans (HGI.out.trans (HGD.out.trans HG8.out)))⟩
                · have HZ2 : Hid (logTo l i (d + 1) = 0) := Lib.hid (by rw [logTo_next hzd.out, txAt_at HAT.out, HBE.out]; exact behind_ok HR.out.symm (by rw [← HSS.out]; exact hst))
                  go_wp2_with fail
                  go_roundw
                  case measure => simp [intOf]; omega
                  case rel => exact ⟨d + 1, by omega, by go_num, HZ2, HGD.out.trans HG8.out⟩
            · have HLT : Hid (logsTo l (i + 1) = 0) := Lib.hid (by rw [logsTo_next hz.out, ← HN.out, show n = d by omega]; exact hzd.out)
              have HGD := Lib.hid hgd
              have hdn2 : ¬ ((d : Int) < (n : Int)) := by omega
              clear hgd
              go_wp2_with fail
              go_roundw
              case measure => simp [intOf]; omega
              case rel => exact ⟨i + 1, by omega, by go_num, HLT, HGI.out.trans HGD.out⟩
        · obtain rfl : i = 8 := by omega
          have HE := Lib.hid (checkE_ok HLB.out hz.out)
          have HGI := Lib.hid hgi
          clear hgi
          go_wp2_with fail
          go_ret
          exact ⟨by rw [HE.out]; rfl, HG.out.trans (HGA.out.trans HGI.out)⟩
end Go.Proofs.YtnjmgknicffcbaaGreatDoor
namespace Go.Proofs.YtnjmgknicffcbaaGreatDoor
open Go.RowKit Go.Joins

set_option maxRecDepth 100000 in
set_option maxHeartbeats 8000000 in
theorem check9_any (u : Nat → S3) (l : LG) (w : World) (h : LV w u l) (hf : FitQ l) :
    Calls Tryz.prog 49 #[.agg (lcells u)] w fun e w' => e = .returned (.int .i64 (checkE l : Int)) ∧ Gr w w' := by
  obtain ⟨W, hW, hg, hL⟩ : ∃ W, W = w.alloc (.cells (lcells u) 25) ∧ Gr w W ∧ LBox W w.heap.size u := ⟨_, rfl, (Gr.refl w).alloc _, ⟨heap_alloc _ _ _⟩⟩
  have HL := Lib.hid hL
  have HG := Lib.hid hg
  have HX := Lib.hid (h.gr hg)
  have HF := Lib.hid hf
  have HBH := Lib.hid (fun (t : TX) (A : Option Addr) (n c : Nat) w1 (g : Gr W w1) => behind_any u l t A n c w1 ((h.gr hg).gr g))
  obtain ⟨l0, l1, l2, l3, l4, l5, l6, l7⟩ := hL.all
  clear hL hg h hf
  go_enter Tryz.func49, Tryz.ntmps49
  go_upto_region 1 with (fail)
  rw [← hW]
  clear hW
  go_wp2_with fail
  go_loopw [11] (fun i wr => ∃ k : Nat, k ≤ 8 ∧ i = .int .i64 k ∧ Hid (∀ j, j < k → (l j).length ≤ 1024) ∧ wr = W) (fun i _ => 8 - (intOf i).toNat)
  case atStart => exact ⟨0, by decide, rfl, Lib.hid (fun j hj => absurd hj (Nat.not_lt_zero _)), rfl⟩
  case round =>
    obtain ⟨k, hk, rfl, hsh, rfl⟩ := hrel
    by_cases hlt : k < 8
    · clear l0 l1 l2 l3 l4 l5 l6 l7
      have hk0 : (0 : Int) ≤ (k : Int) := Int.natCast_nonneg _
      have hk8 : (k : Int) < 8 := by omega
      have hix := fun W => run_index_logs u hlt W
      obtain ⟨n, hn⟩ : ∃ n, n = (l k).length := ⟨_, rfl⟩
      rw [HX.out.len hlt, ← hn] at hix
      have HN := Lib.hid hn
      clear hn
      by_cases hlong : 1024 < n
      · have HE := Lib.hid (checkE_long (l := l) hlt (by rw [← HN.out]; exact hlong))
        have hlo : (1024 : Int) < (n : Int) := by omega
        go_wp2_with fail
        go_ret
        exact ⟨by rw [HE.out]; rfl, HG.out⟩
      · have HSH : Hid (∀ j, j < k + 1 → (l j).length ≤ 1024) := Lib.hid fun j hj => by
          by_cases q : j = k
          · rw [q, ← HN.out]; omega
          · exact hsh.out j (by omega)
        have hlo : ¬ ((1024 : Int) < (n : Int)) := by omega
        go_wp2_with fail
        go_roundw
        case measure => simp [intOf]; omega
        case rel => exact ⟨k + 1, by omega, by go_num, HSH, trivial⟩
    · rename World => wa
      have HLB : Hid (longB l = false) := Lib.hid (longB_no fun i hi => hsh.out i (by omega))
      have hge : ¬ ((k : Int) < 8) := by omega
      go_wp2_with fail
      clear l0 l1 l2 l3 l4 l5 l6 l7
      go_loopw [19] (fun i wr => ∃ k : Nat, k ≤ 8 ∧ i = .int .i64 k ∧ Hid (logsTo l k = 0) ∧ Gr wa wr) (fun i _ => 8 - (intOf i).toNat)
      case atStart => exact ⟨0, by decide, rfl, Lib.hid rfl, Gr.refl _⟩
      case round =>
        obtain ⟨i, hi, rfl, hz, hgi⟩ := hrel
        rename World => wi
        by_cases hi8 : i < 8
        · have hii0 : (0 : Int) ≤ (i : Int) := Int.natCast_nonneg _
          have hii8 : (i : Int) < 8 := by omega
          have hix := fun W => run_index_logs u hi8 W
          have hle := HX.out.le hi8
          obtain ⟨A, hA⟩ : ∃ A, A = (u i).a := ⟨_, rfl⟩
          obtain ⟨n, hn⟩ : ∃ n, n = (l i).length := ⟨_, rfl⟩
          rw [HX.out.len hi8, ← hn, ← hA] at hix
          rw [← hn] at hle
          have HA := Lib.hid hA
          have HN := Lib.hid hn
          have HGI := Lib.hid hgi
          clear hgi hA hn
          go_wp2_with fail
          clear hix
          go_loopw [25] (fun s wr => ∃ k : Nat, k ≤ n ∧ s = .int .i64 k ∧ Hid (logTo l i k = 0) ∧ Gr wi wr) (fun s _ => n - (intOf s).toNat)
          case atStart => exact ⟨0, Nat.zero_le _, rfl, Lib.hid rfl, Gr.refl _⟩
          case round =>
            obtain ⟨d, hd, rfl, hzd, hgd⟩ := hrel
            rename World => wr
            by_cases hdn : d < n
            · have hdl : d < (l i).length := by rw [← HN.out]; exact hdn
              obtain ⟨b, off, ha, xv, hx0, hx⟩ := (HX.out.gr (HGI.out.trans hgd)).cell hi8 hdl
              rw [← HA.out] at ha
              subst ha
              obtain ⟨t, ht⟩ : ∃ t, t = (l i)[d] := ⟨_, rfl⟩
              rw [← ht] at hx0 hx
              obtain ⟨Ax, cx, rfl⟩ := tov_form hx0
              have hfq := HF.out i t hi8 (by rw [ht]; exact List.getElem_mem hdl)
              have HCK := Lib.hid (fun w1 (g : Gr wr w1) => check8_any t (.slice Ax t.ops.length cx) hfq.1 hfq.2 w1 (hx0.gr g))
              obtain ⟨nx, hnx⟩ : ∃ n, n = t.ops.length := ⟨_, rfl⟩
              rw [← hnx] at hx HCK
              obtain ⟨x0, x1, x2, x3, x4, x5, x6, x7, x8, x9, x10, x11⟩ := hx
              obtain ⟨W5, hW5, hg5, hx5⟩ := xbox wr t (.slice Ax nx cx)
              have HAT : Hid ((l i)[d]? = some t) := Lib.hid (by rw [ht]; exact List.getElem?_eq_getElem hdl)
              have HX5 := Lib.hid hx5
              have HG5 := Lib.hid hg5
              have HGD := Lib.hid hgd
              have hd0 : (0 : Int) ≤ (d : Int) := by omega
              have hd1 : (d : Int) < (n : Int) := by omega
              obtain ⟨p0, p1, p2, p3, p4, p5, p6, p7, p8, p9, p10, p11⟩ := hx5
              clear hx0 hnx hg5 hgd ht hfq
              go_upto_region 13 with (fail)
              rw [← hW5]
              clear hW5 x0 x1 x2 x3 x4 x5 x6 x7 x8 x9 x10 x11
              by_cases hok : okTx t
              case neg =>
                rw [check_no hok] at HCK
                have HE := Lib.hid (checkE_at HLB.out hi8 HAT.out hz.out hzd.out (txE_bad (fun h => hok h.1)) (by decide))
                clear hok
                go_wp2_with fail
                refine (HCK.out _ HG5.out).mono ?_
                rintro e w6 ⟨rfl, g6⟩
                clear p0 p1 p2 p3 p4 p5 p6 p7 p8 p9 p10 p11
                go_wp2_with fail
                go_ret
                exact ⟨by rw [HE.out]; rfl, HG.out.trans (HGI.out.trans (HGD.out.trans (HG5.out.trans g6)))⟩
              rw [check_yes hok] at HCK
              have HOK := Lib.hid hok
              clear hok
              by_cases hor : t.origin = (i : Int)
              case neg =>
                have hb : (t.origin != (i : Int)) = true := bne_iff_ne.2 hor
                have HE := Lib.hid (checkE_at HLB.out hi8 HAT.out hz.out hzd.out (txE_bad (fun h => hor h.2.1)) (by decide))
                go_wp2_with fail
                refine (HCK.out _ HG5.out).mono ?_
                rintro e w6 ⟨rfl, g6⟩
                clear p0 p1 p2 p3 p4 p5 p6 p7 p8 p9 p10 p11
                have HG6 := Lib.hid g6
                obtain ⟨p0, p1, p2, p3, p4, p5, p6, p7, p8, p9, p10, p11⟩ := HX5.out.gr g6
                clear g6
                go_wp2_with fail
                go_ret
                exact ⟨by rw [HE.out]; rfl, HG.out.trans (HGI.out.trans (HGD.out.trans (HG5.out.trans HG6.out)))⟩
              have hb : (t.origin != (i : Int)) = false := by rw [hor]; simp
              have HOR := Lib.hid hor
              clear hor
              have hwr0 : IntKind.u64.wrap (d : Int) = (d : Int) := u64_len (by omega)
              have hwr : IntKind.u64.wrap ((d : Int) + 1) = ((d + 1 : Nat) : Int) := by simp [IntKind.wrap, IntKind.bits, IntKind.signed]; omega
              by_cases hsq : t.seq = d + 1
              case neg =>
                have hb2 : ((t.seq : Int) != ((d + 1 : Nat) : Int)) = true := by rw [bne_iff_ne]; omega
                have hb3 : ((t.seq : Int) != (d : Int) + 1) = true := by rw [bne_iff_ne]; omega
                have HE := Lib.hid (checkE_at HLB.out hi8 HAT.out hz.out hzd.out (txE_bad (fun h => hsq h.2.2)) (by decide))
                go_wp2_with fail
                refine (HCK.out _ HG5.out).mono ?_
                rintro e w6 ⟨rfl, g6⟩
                clear p0 p1 p2 p3 p4 p5 p6 p7 p8 p9 p10 p11
                have HG6 := Lib.hid g6
                obtain ⟨p0, p1, p2, p3, p4, p5, p6, p7, p8, p9, p10, p11⟩ := HX5.out.gr g6
                clear g6
                go_wp2_with fail
                all_goals first | (exfalso; omega) | skip
                go_ret
                exact ⟨by rw [HE.out]; rfl, HG.out.trans (HGI.out.trans (HGD.out.trans (HG5.out.trans HG6.out)))⟩
              have hb2 : ((t.seq : Int) != ((d + 1 : Nat) : Int)) = false := by rw [hsq]; simp
              have hb3 : ((t.seq : Int) != (d : Int) + 1) = false := by rw [hsq]; simp
              have HBE := Lib.hid (txE_is (l := l) ⟨HOK.out, HOR.out, hsq⟩)
              clear hsq
              obtain ⟨r, hr⟩ : ∃ r, r = behindE l t := ⟨_, rfl⟩
              have HB := Lib.hid (fun w1 (g : Gr wa w1) => HBH.out t Ax nx cx w1 g)
              rw [← hr] at HB
              have HR := Lib.hid hr
              clear hr
              go_wp2_with fail
              refine (HCK.out _ HG5.out).mono ?_
              rintro e w6 ⟨rfl, g6⟩
              clear p0 p1 p2 p3 p4 p5 p6 p7 p8 p9 p10 p11
              have HG6 := Lib.hid (HG5.out.trans g6)
              have HX6 := Lib.hid (HX5.out.gr g6)
              obtain ⟨l0, l1, l2, l3, l4, l5, l6, l7⟩ := (HL.out.gr (HGI.out.trans (HGD.out.trans HG6.out))).all
              obtain ⟨p0, p1, p2, p3, p4, p5, p6, p7, p8, p9, p10, p11⟩ := HX6.out
              clear g6
              go_wp2_with fail
              all_goals first | (exfalso; omega) | skip
              refine (HB.out _ (HGI.out.trans (HGD.out.trans HG6.out))).mono ?_
              rintro e w7 ⟨rfl, g7⟩
              clear p0 p1 p2 p3 p4 p5 p6 p7 p8 p9 p10 p11 l0 l1 l2 l3 l4 l5 l6 l7
              have HG7 := Lib.hid (HG6.out.trans g7)
              clear g7 hb2 hb3 hb hwr hwr0
              by_cases hr0 : r = 0
              · subst hr0
                have HZ2 : Hid (logTo l i (d + 1) = 0) := Lib.hid (by rw [logTo_next hzd.out, txAt_at HAT.out, HBE.out]; exact HR.out.symm)
                go_wp2_with fail
                go_roundw
                case measure => simp [intOf]; omega
                case rel => exact ⟨d + 1, by omega, by go_num, HZ2, HGD.out.trans HG7.out⟩
              · have HE := Lib.hid (checkE_at HLB.out hi8 HAT.out hz.out hzd.out (HBE.out.trans HR.out.symm) hr0)
                have hrb : ((r : Int) != 0) = true := by rw [bne_iff_ne]; omega
                have hrn : ¬ ((r : Int) = 0) := by omega
                go_wp2_with fail
                go_ret
                exact ⟨by rw [HE.out]; rfl, HG.out.trans (HGI.out.trans (HGD.out.trans HG7.out))⟩
            · have HLT : Hid (logsTo l (i + 1) = 0) := Lib.hid (by rw [logsTo_next hz.out, ← HN.out, show n = d by omega]; exact hzd.out)
              have HGD := Lib.hid hgd
              have hdn2 : ¬ ((d : Int) < (n : Int)) := by omega
              clear hgd
              go_wp2_with fail
              go_roundw
              case measure => simp [intOf]; omega
              case rel => exact ⟨i + 1, by omega, by go_num, HLT, HGI.out.trans HGD.out⟩
        · obtain rfl : i = 8 := by omega
          have HE := Lib.hid (checkE_ok HLB.out hz.out)
          have HGI := Lib.hid hgi
          clear hgi
          go_wp2_with fail
          go_ret
          exact ⟨by rw [HE.out]; rfl, HG.out.trans HGI.out⟩
end Go.Proofs.YtnjmgknicffcbaaGreatDoor
