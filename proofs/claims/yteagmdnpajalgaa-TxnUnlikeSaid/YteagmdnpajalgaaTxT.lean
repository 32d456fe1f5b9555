/- The law TxnUnlike. -/
import Derived.Test.YteagmdnpajalgaaTxS
namespace Go.Proofs.Yteagmdnpajalgaa
open Go.RowKit Go.Joins

theorem eqB_symm {f g : Nat → Nat} (h : eqB f g = true) : eqB g f = true := eqB_iff.2 fun k hk => (eqB_iff.1 h k hk).symm
theorem nums8_congr {f g : Nat → Nat} : ∀ k, k ≤ 8 → eqB f g = true → nums8 f k = nums8 g k
  | 0, _, _ => rfl
  | k + 1, hk, h => by unfold nums8; rw [nums8_congr k (by omega) h, eqB_iff.1 h k (by omega)]
theorem sameT_parts {a b : TX} (h : sameT a b = true) : a.origin = b.origin ∧ a.seq = b.seq ∧ a.stamp = b.stamp ∧ eqB a.deps b.deps = true ∧ a.ops = b.ops := by
  unfold sameT at h
  simp only [Bool.and_eq_true, beq_iff_eq] at h
  exact ⟨h.1, h.2.1, h.2.2.1, h.2.2.2.1, tsameB_iff.1 h.2.2.2.2⟩
theorem sameT_of {a b : TX} (h1 : a.origin = b.origin) (h2 : a.seq = b.seq) (h3 : a.stamp = b.stamp) (h4 : eqB a.deps b.deps = true) (h5 : a.ops = b.ops) : sameT a b = true := by
  unfold sameT
  rw [h4, tsameB_yes h5, h1, h2, h3]
  simp
theorem txB_same {a b : TX} (h : sameT a b = true) : txB a = txB b := by
  obtain ⟨h1, h2, h3, h4, h5⟩ := sameT_parts h
  unfold txB fieldsT headF
  rw [h1, h2, h3, nums8_congr 8 (Nat.le_refl _) h4, h5]
theorem txB_iff {a b : TX} (ha : NumX a) (hb : NumX b) (oa : okTx a) (ob : okTx b) : txB a = txB b ↔ sameT a b = true := by
  refine ⟨fun h => ?_, txB_same⟩
  obtain ⟨u, u1, -, u3⟩ := dec_enc ha oa
  obtain ⟨x, x1, -, x3⟩ := dec_enc hb ob
  rw [h, x1] at u1
  injection u1 with u1
  subst u1
  obtain ⟨h1, h2, h3, h4, h5⟩ := sameT_parts u3
  obtain ⟨k1, k2, k3, k4, k5⟩ := sameT_parts x3
  exact sameT_of (h1.symm.trans k1) (h2.symm.trans k2) (h3.symm.trans k3) (eqB_iff.2 fun k hk => (eqB_iff.1 h4 k hk).symm.trans (eqB_iff.1 k4 k hk)) (h5.symm.trans k5)
theorem txB_bool {a b : TX} (ha : NumX a) (hb : NumX b) (oa : okTx a) (ob : okTx b) : ∃ r, ((txB a).toList == (txB b).toList) = r ∧ sameT a b = r := by
  refine ⟨sameT a b, ?_, rfl⟩
  rcases h : sameT a b with _ | _
  · rw [Bool.eq_false_iff]
    intro e
    have := (txB_iff ha hb oa ob).1 (eqS_iff.1 e)
    rw [h] at this
    cases this
  · rw [(txB_iff ha hb oa ob).2 h]
    exact eqS_self _
set_option maxRecDepth 100000 in
set_option maxHeartbeats 4000000 in
theorem unlike8_law (t u : TX) (v vu : Value) (w : World) (hf : FitX t) (hfu : FitX u) (hv : TOV w v t.ops) (hvu : TOV w vu u.ops) :
    Calls Try.prog 5 #[.agg (tcs t v), .agg (tcs u vu)] w fun e w' => e = .returned (.bool true) ∧ Gr w w' := by
  have hn := hf.num
  have hnu := hfu.num
  obtain ⟨A, c, rfl⟩ := tov_form hv
  obtain ⟨B, d, rfl⟩ := tov_form hvu
  have hlen : t.ops.length * 48 ≤ 140737488355328 := by have := hf.len; omega
  have hlenu : u.ops.length * 48 ≤ 140737488355328 := by have := hfu.len; omega
  obtain ⟨W0, hW0, hg0, hx0⟩ := xbox w t (.slice A t.ops.length c)
  obtain ⟨W, hW, hg1, hx1⟩ := xbox W0 u (.slice B u.ops.length d)
  have hz : W0.heap.size = w.heap.size + 1 := by rw [hW0]; simp
  rw [hz] at hx1
  rw [hW0] at hW
  have hg := hg0.trans hg1
  have HX := Lib.hid (hx0.gr hg1)
  have HXU := Lib.hid hx1
  have HG := Lib.hid hg
  have HV := Lib.hid (hv.gr hg)
  have HVU := Lib.hid (hvu.gr hg)
  have HCP := Lib.hid (fun w1 (g : Gr W w1) => rcopy8_any t (.slice A t.ops.length c) w1 ((hv.gr hg).gr g) hlen)
  have HCU := Lib.hid (fun w1 (g : Gr W w1) => rcopy8_any u (.slice B u.ops.length d) w1 ((hvu.gr hg).gr g) hlenu)
  have HEN := Lib.hid (fun x w1 (h : TOV w1 x t.ops) => encode8_any t x hn w1 h)
  have HEU := Lib.hid (fun x w1 (h : TOV w1 x u.ops) => encode8_any u x hnu w1 h)
  have HSM := Lib.hid (fun w1 (g : Gr W w1) => rsame8_any t u (.slice A t.ops.length c) (.slice B u.ops.length d) w1 ((hv.gr hg).gr g) ((hvu.gr hg).gr g))
  have HB := Lib.hid (fun (h1 : okTx t) (h2 : okTx u) => txB_bool hn hnu h1 h2)
  obtain ⟨n, hnn⟩ : ∃ n, n = t.ops.length := ⟨_, rfl⟩
  obtain ⟨m, hmm⟩ : ∃ n, n = u.ops.length := ⟨_, rfl⟩
  rw [← hnn] at HX HV HCP HSM hW ⊢
  rw [← hmm] at HXU HVU HCU HSM hW ⊢
  clear hf hfu hv hvu hg hg0 hg1 hx0 hx1 hlen hlenu hn hnu hnn hmm hz hW0
  by_cases hok : okTx t
  case neg =>
    have HE := Lib.hid (enc_no hok)
    obtain ⟨fe, hfe⟩ : ∃ x, x = encVal u := ⟨_, rfl⟩
    clear hok HB
    by_cases hou : okTx u
    · have HF := Lib.hid (enc_yes hou)
      obtain ⟨T, hT⟩ : ∃ T, T = txB u := ⟨_, rfl⟩
      rw [← hT] at HF
      clear hou hT hfe
      go_enter Try.func5, Try.ntmps5
      go_upto_region 1 with (fail)
      rw [← hW]
      clear hW
      go_wp2_with fail
      refine (awake8_any W).mono ?_
      rintro e w1 ⟨rfl, g1⟩
      have HG1 := Lib.hid g1
      obtain ⟨q0, q1, q2, q3, q4, q5, q6, q7, q8, q9, q10, q11⟩ := HX.out.gr g1
      clear g1
      go_wp2_with fail
      refine (HCP.out _ HG1.out).mono ?_
      rintro e w2 ⟨u2, rfl, hv2, g2⟩
      have HG2 := Lib.hid (HG1.out.trans g2)
      have HV2 := Lib.hid hv2
      obtain ⟨A2, c2, rfl⟩ := tov_form hv2
      clear q0 q1 q2 q3 q4 q5 q6 q7 q8 q9 q10 q11 g2 hv2
      go_wp2_with fail
      refine (HEN.out _ _ HV2.out).mono ?_
      rw [HE.out]
      rintro e w3 ⟨rfl, g3⟩
      have HG3 := Lib.hid (HG2.out.trans g3)
      obtain ⟨q0, q1, q2, q3, q4, q5, q6, q7, q8, q9, q10, q11⟩ := HXU.out.gr HG3.out
      clear g3
      go_wp2_with fail
      refine (HCU.out _ HG3.out).mono ?_
      rintro e w4 ⟨u4, rfl, hv4, g4⟩
      have HG4 := Lib.hid (HG3.out.trans g4)
      have HV4 := Lib.hid hv4
      obtain ⟨A4, c4, rfl⟩ := tov_form hv4
      clear q0 q1 q2 q3 q4 q5 q6 q7 q8 q9 q10 q11 g4 hv4
      go_wp2_with fail
      refine (HEU.out _ _ HV4.out).mono ?_
      rw [HF.out]
      rintro e w5 ⟨rfl, g5⟩
      have HG5 := Lib.hid (HG4.out.trans g5)
      clear g5
      go_wp2_with fail
      go_ret
      exact ⟨rfl, HG.out.trans HG5.out⟩
    · have HF := Lib.hid (enc_no hou)
      clear hou hfe
      go_enter Try.func5, Try.ntmps5
      go_upto_region 1 with (fail)
      rw [← hW]
      clear hW
      go_wp2_with fail
      refine (awake8_any W).mono ?_
      rintro e w1 ⟨rfl, g1⟩
      have HG1 := Lib.hid g1
      obtain ⟨q0, q1, q2, q3, q4, q5, q6, q7, q8, q9, q10, q11⟩ := HX.out.gr g1
      clear g1
      go_wp2_with fail
      refine (HCP.out _ HG1.out).mono ?_
      rintro e w2 ⟨u2, rfl, hv2, g2⟩
      have HG2 := Lib.hid (HG1.out.trans g2)
      have HV2 := Lib.hid hv2
      obtain ⟨A2, c2, rfl⟩ := tov_form hv2
      clear q0 q1 q2 q3 q4 q5 q6 q7 q8 q9 q10 q11 g2 hv2
      go_wp2_with fail
      refine (HEN.out _ _ HV2.out).mono ?_
      rw [HE.out]
      rintro e w3 ⟨rfl, g3⟩
      have HG3 := Lib.hid (HG2.out.trans g3)
      obtain ⟨q0, q1, q2, q3, q4, q5, q6, q7, q8, q9, q10, q11⟩ := HXU.out.gr HG3.out
      clear g3
      go_wp2_with fail
      refine (HCU.out _ HG3.out).mono ?_
      rintro e w4 ⟨u4, rfl, hv4, g4⟩
      have HG4 := Lib.hid (HG3.out.trans g4)
      have HV4 := Lib.hid hv4
      obtain ⟨A4, c4, rfl⟩ := tov_form hv4
      clear q0 q1 q2 q3 q4 q5 q6 q7 q8 q9 q10 q11 g4 hv4
      go_wp2_with fail
      refine (HEU.out _ _ HV4.out).mono ?_
      rw [HF.out]
      rintro e w5 ⟨rfl, g5⟩
      have HG5 := Lib.hid (HG4.out.trans g5)
      clear g5
      go_wp2_with fail
      go_ret
      exact ⟨rfl, HG.out.trans HG5.out⟩
  have HE := Lib.hid (enc_yes hok)
  by_cases hou : okTx u
  case neg =>
    have HF := Lib.hid (enc_no hou)
    obtain ⟨T, hT⟩ : ∃ T, T = txB t := ⟨_, rfl⟩
    rw [← hT] at HE
    clear hok hou hT HB
    go_enter Try.func5, Try.ntmps5
    go_upto_region 1 with (fail)
    rw [← hW]
    clear hW
    go_wp2_with fail
    refine (awake8_any W).mono ?_
    rintro e w1 ⟨rfl, g1⟩
    have HG1 := Lib.hid g1
    obtain ⟨q0, q1, q2, q3, q4, q5, q6, q7, q8, q9, q10, q11⟩ := HX.out.gr g1
    clear g1
    go_wp2_with fail
    refine (HCP.out _ HG1.out).mono ?_
    rintro e w2 ⟨u2, rfl, hv2, g2⟩
    have HG2 := Lib.hid (HG1.out.trans g2)
    have HV2 := Lib.hid hv2
    obtain ⟨A2, c2, rfl⟩ := tov_form hv2
    clear q0 q1 q2 q3 q4 q5 q6 q7 q8 q9 q10 q11 g2 hv2
    go_wp2_with fail
    refine (HEN.out _ _ HV2.out).mono ?_
    rw [HE.out]
    rintro e w3 ⟨rfl, g3⟩
    have HG3 := Lib.hid (HG2.out.trans g3)
    obtain ⟨q0, q1, q2, q3, q4, q5, q6, q7, q8, q9, q10, q11⟩ := HXU.out.gr HG3.out
    clear g3
    go_wp2_with fail
    refine (HCU.out _ HG3.out).mono ?_
    rintro e w4 ⟨u4, rfl, hv4, g4⟩
    have HG4 := Lib.hid (HG3.out.trans g4)
    have HV4 := Lib.hid hv4
    obtain ⟨A4, c4, rfl⟩ := tov_form hv4
    clear q0 q1 q2 q3 q4 q5 q6 q7 q8 q9 q10 q11 g4 hv4
    go_wp2_with fail
    refine (HEU.out _ _ HV4.out).mono ?_
    rw [HF.out]
    rintro e w5 ⟨rfl, g5⟩
    have HG5 := Lib.hid (HG4.out.trans g5)
    clear g5
    go_wp2_with fail
    go_ret
    exact ⟨rfl, HG.out.trans HG5.out⟩
  have HF := Lib.hid (enc_yes hou)
  obtain ⟨r, hr1, hr2⟩ := HB.out hok hou
  rw [hr2] at HSM
  obtain ⟨T, hT⟩ : ∃ T, T = txB t := ⟨_, rfl⟩
  obtain ⟨T2, hT2⟩ : ∃ T, T = txB u := ⟨_, rfl⟩
  rw [← hT] at HE hr1
  rw [← hT2] at HF hr1
  have HR1 := Lib.hid hr1
  clear hok hou hT hT2 HB hr1 hr2
  go_enter Try.func5, Try.ntmps5
  go_upto_region 1 with (fail)
  rw [← hW]
  clear hW
  go_wp2_with fail
  refine (awake8_any W).mono ?_
  rintro e w1 ⟨rfl, g1⟩
  have HG1 := Lib.hid g1
  obtain ⟨q0, q1, q2, q3, q4, q5, q6, q7, q8, q9, q10, q11⟩ := HX.out.gr g1
  clear g1
  go_wp2_with fail
  refine (HCP.out _ HG1.out).mono ?_
  rintro e w2 ⟨u2, rfl, hv2, g2⟩
  have HG2 := Lib.hid (HG1.out.trans g2)
  have HV2 := Lib.hid hv2
  obtain ⟨A2, c2, rfl⟩ := tov_form hv2
  clear q0 q1 q2 q3 q4 q5 q6 q7 q8 q9 q10 q11 g2 hv2
  go_wp2_with fail
  refine (HEN.out _ _ HV2.out).mono ?_
  rw [HE.out]
  rintro e w3 ⟨rfl, g3⟩
  have HG3 := Lib.hid (HG2.out.trans g3)
  obtain ⟨q0, q1, q2, q3, q4, q5, q6, q7, q8, q9, q10, q11⟩ := HXU.out.gr HG3.out
  clear g3
  go_wp2_with fail
  refine (HCU.out _ HG3.out).mono ?_
  rintro e w4 ⟨u4, rfl, hv4, g4⟩
  have HG4 := Lib.hid (HG3.out.trans g4)
  have HV4 := Lib.hid hv4
  obtain ⟨A4, c4, rfl⟩ := tov_form hv4
  clear q0 q1 q2 q3 q4 q5 q6 q7 q8 q9 q10 q11 g4 hv4
  go_wp2_with fail
  refine (HEU.out _ _ HV4.out).mono ?_
  rw [HF.out]
  rintro e w5 ⟨rfl, g5⟩
  have HG5 := Lib.hid (HG4.out.trans g5)
  clear g5
  obtain ⟨q0, q1, q2, q3, q4, q5, q6, q7, q8, q9, q10, q11⟩ := HX.out.gr HG5.out
  obtain ⟨p0, p1, p2, p3, p4, p5, p6, p7, p8, p9, p10, p11⟩ := HXU.out.gr HG5.out
  have heq := HR1.out
  go_wp2_with fail
  refine (HSM.out _ HG5.out).mono ?_
  rintro e w6 ⟨rfl, g6⟩
  go_wp2_with fail
  go_ret
  exact ⟨by first | rfl | simp, HG.out.trans (HG5.out.trans g6)⟩
end Go.Proofs.Yteagmdnpajalgaa
