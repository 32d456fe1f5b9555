/- The law TxnBack. -/
import Derived.Test.YteagmdnpajalgaaTxR
import Derived.Test.YteagmdnpajalgaaTxO
namespace Go.Proofs.Yteagmdnpajalgaa
open Go.RowKit Go.Joins

theorem FitX.num {t : TX} (h : FitX t) : NumX t := ⟨h.seq, h.stamp, h.deps, fun o ho => by have := (h.ops o ho).2.2.1; omega⟩
theorem tx_small {t : TX} (h : okTx t) : (txB t).size ≤ maxLen := by
  unfold txB maxLen
  rw [bs_size, packL_length]
  have := (okPack_T h).2.2
  omega
set_option maxRecDepth 100000 in
set_option maxHeartbeats 4000000 in
theorem back8_law (t : TX) (v : Value) (s : ByteArray) (w : World) (hf : FitX t) (hv : TOV w v t.ops) (hs : s.size ≤ maxLen) :
    Calls Try.prog 4 #[.agg (tcs t v), .string s] w fun e w' => e = .returned (.bool true) ∧ Gr w w' := by
  have hn := hf.num
  obtain ⟨A, c, rfl⟩ := tov_form hv
  have hlen : t.ops.length * 48 ≤ 140737488355328 := by have := hf.len; omega
  obtain ⟨W, hW, hg, hx⟩ := xbox w t (.slice A t.ops.length c)
  have HX := Lib.hid hx
  have HG := Lib.hid hg
  have HV := Lib.hid (hv.gr hg)
  have HCP := Lib.hid (fun w1 (g : Gr W w1) => rcopy8_any t (.slice A t.ops.length c) w1 ((hv.gr hg).gr g) hlen)
  have HEN := Lib.hid (fun u w1 (h : TOV w1 u t.ops) => encode8_any t u hn w1 h)
  have HDS := Lib.hid (fun w1 => decode8_any s hs w1)
  have HSS : Hid ((s.toList == s.toList) = true) := Lib.hid (eqS_self s)
  have HN := Lib.hid hn
  obtain ⟨n, hnn⟩ : ∃ n, n = t.ops.length := ⟨_, rfl⟩
  rw [← hnn] at HX HV HCP hW ⊢
  clear hf hv hs hg hx hlen hn hnn
  unfold RetDec at HDS
  rcases hx : decodeR s.data.toList with _ | x
  · rw [hx] at HDS
    clear hx
    by_cases hok : okTx t
    · have HE := Lib.hid (enc_yes hok)
      obtain ⟨u, hu1, hu2, hu3⟩ := dec_enc HN.out hok
      have hd := fun w1 => decode8_any (txB t) (tx_small hok) w1
      unfold RetDec at hd
      rw [hu1] at hd
      simp only [if_pos hu2] at hd
      have HD1 := Lib.hid hd
      have HSM := Lib.hid hu3
      obtain ⟨T, hT⟩ : ∃ T, T = txB t := ⟨_, rfl⟩
      rw [← hT] at HE HD1
      clear hok hd hu1 hu2 hu3 hT
      go_enter Try.func4, Try.ntmps4
      go_upto_region 1 with (fail)
      rw [← hW]
      clear hW
      go_wp2_with fail
      refine (awake8_any W).mono ?_
      rintro e w1 ⟨rfl, g1⟩
      have HG1 := Lib.hid g1
      obtain ⟨q0, q1, q2, q3, q4, q5, q6, q7, q8, q9, q10, q11⟩ := HX.out.gr g1
      clear g1
      go_wp2_with fail
      refine (HCP.out _ HG1.out).mono ?_
      rintro e w2 ⟨u2, rfl, hv2, g2⟩
      have HG2 := Lib.hid (HG1.out.trans g2)
      have HV2 := Lib.hid hv2
      obtain ⟨A2, c2, rfl⟩ := tov_form hv2
      clear q0 q1 q2 q3 q4 q5 q6 q7 q8 q9 q10 q11 g2 hv2
      go_wp2_with fail
      refine (HEN.out _ _ HV2.out).mono ?_
      rw [HE.out]
      rintro e w3 ⟨rfl, g3⟩
      have HG3 := Lib.hid (HG2.out.trans g3)
      clear g3
      go_wp2_with fail
      refine (HD1.out _).mono ?_
      rintro e w4 ⟨v4, rfl, hown4, g4⟩
      obtain ⟨A4, c4, rfl, -, -⟩ := hown4.form
      obtain ⟨n4, hn4⟩ : ∃ n, n = u.ops.length := ⟨_, rfl⟩
      rw [← hn4] at hown4 ⊢
      obtain ⟨W5, hW5, hg5, hx5⟩ := xbox w4 u (.slice A4 n4 c4)
      have HG5 := Lib.hid ((HG3.out.trans g4).trans hg5)
      have HS5 := Lib.hid (rsame8_any u t (.slice A4 n4 c4) (.slice A n c) W5 (hown4.tov.gr hg5) (HV.out.gr HG5.out))
      rw [HSM.out] at HS5
      obtain ⟨q0, q1, q2, q3, q4, q5, q6, q7, q8, q9, q10, q11⟩ := HX.out.gr HG5.out
      obtain ⟨p0, p1, p2, p3, p4, p5, p6, p7, p8, p9, p10, p11⟩ := hx5
      clear g4 hg5 hown4 hn4
      go_upto_region 6 with (fail)
      rw [← hW5]
      clear hW5
      go_wp2_with fail
      refine HS5.out.mono ?_
      rintro e w6 ⟨rfl, g6⟩
      have HGZ := Lib.hid (HG5.out.trans g6)
      clear g6 p0 p1 p2 p3 p4 p5 p6 p7 p8 p9 p10 p11 q0 q1 q2 q3 q4 q5 q6 q7 q8 q9 q10 q11
      go_wp2_with fail
      refine (HDS.out _).mono ?_
      rintro e w7 ⟨rfl, g7⟩
      obtain ⟨W8, hW8, hg8, hx8⟩ := xbox w7 noTX (.slice none 0 0)
      have HG8 := Lib.hid ((HGZ.out.trans g7).trans hg8)
      have z11 := hx8.2.2.2.2.2.2.2.2.2.2.2
      clear g7 hg8 hx8
      go_upto_region 9 with (fail)
      rw [← hW8]
      clear hW8
      go_wp2_with fail
      go_ret
      exact ⟨rfl, HG.out.trans HG8.out⟩
    · have HE := Lib.hid (enc_no hok)
      clear hok
      go_enter Try.func4, Try.ntmps4
      go_upto_region 1 with (fail)
      rw [← hW]
      clear hW
      go_wp2_with fail
      refine (awake8_any W).mono ?_
      rintro e w1 ⟨rfl, g1⟩
      have HG1 := Lib.hid g1
      obtain ⟨q0, q1, q2, q3, q4, q5, q6, q7, q8, q9, q10, q11⟩ := HX.out.gr g1
      clear g1
      go_wp2_with fail
      refine (HCP.out _ HG1.out).mono ?_
      rintro e w2 ⟨u2, rfl, hv2, g2⟩
      have HG2 := Lib.hid (HG1.out.trans g2)
      have HV2 := Lib.hid hv2
      obtain ⟨A2, c2, rfl⟩ := tov_form hv2
      clear q0 q1 q2 q3 q4 q5 q6 q7 q8 q9 q10 q11 g2 hv2
      go_wp2_with fail
      refine (HEN.out _ _ HV2.out).mono ?_
      rw [HE.out]
      rintro e w3 ⟨rfl, g3⟩
      have HGZ := Lib.hid (HG2.out.trans g3)
      clear g3
      go_wp2_with fail
      refine (HDS.out _).mono ?_
      rintro e w7 ⟨rfl, g7⟩
      obtain ⟨W8, hW8, hg8, hx8⟩ := xbox w7 noTX (.slice none 0 0)
      have HG8 := Lib.hid ((HGZ.out.trans g7).trans hg8)
      have z11 := hx8.2.2.2.2.2.2.2.2.2.2.2
      clear g7 hg8 hx8
      go_upto_region 9 with (fail)
      rw [← hW8]
      clear hW8
      go_wp2_with fail
      go_ret
      exact ⟨rfl, HG.out.trans HG8.out⟩
  · rw [hx] at HDS
    by_cases hkx : okTx x
    · simp only [if_pos hkx] at HDS
      have HNX := Lib.hid (dec_num hx)
      have HEX : Hid (encVal x = .tuple #[.string s, .int .i64 0]) := Lib.hid (by rw [enc_yes hkx, enc_dec hx hkx])
      clear hx hkx
      by_cases hok : okTx t
      · have HE := Lib.hid (enc_yes hok)
        obtain ⟨u, hu1, hu2, hu3⟩ := dec_enc HN.out hok
        have hd := fun w1 => decode8_any (txB t) (tx_small hok) w1
        unfold RetDec at hd
        rw [hu1] at hd
        simp only [if_pos hu2] at hd
        have HD1 := Lib.hid hd
        have HSM := Lib.hid hu3
        obtain ⟨T, hT⟩ : ∃ T, T = txB t := ⟨_, rfl⟩
        rw [← hT] at HE HD1
        clear hok hd hu1 hu2 hu3 hT
        go_enter Try.func4, Try.ntmps4
        go_upto_region 1 with (fail)
        rw [← hW]
        clear hW
        go_wp2_with fail
        refine (awake8_any W).mono ?_
        rintro e w1 ⟨rfl, g1⟩
        have HG1 := Lib.hid g1
        obtain ⟨q0, q1, q2, q3, q4, q5, q6, q7, q8, q9, q10, q11⟩ := HX.out.gr g1
        clear g1
        go_wp2_with fail
        refine (HCP.out _ HG1.out).mono ?_
        rintro e w2 ⟨u2, rfl, hv2, g2⟩
        have HG2 := Lib.hid (HG1.out.trans g2)
        have HV2 := Lib.hid hv2
        obtain ⟨A2, c2, rfl⟩ := tov_form hv2
        clear q0 q1 q2 q3 q4 q5 q6 q7 q8 q9 q10 q11 g2 hv2
        go_wp2_with fail
        refine (HEN.out _ _ HV2.out).mono ?_
        rw [HE.out]
        rintro e w3 ⟨rfl, g3⟩
        have HG3 := Lib.hid (HG2.out.trans g3)
        clear g3
        go_wp2_with fail
        refine (HD1.out _).mono ?_
        rintro e w4 ⟨v4, rfl, hown4, g4⟩
        obtain ⟨A4, c4, rfl, -, -⟩ := hown4.form
        obtain ⟨n4, hn4⟩ : ∃ n, n = u.ops.length := ⟨_, rfl⟩
        rw [← hn4] at hown4 ⊢
        obtain ⟨W5, hW5, hg5, hx5⟩ := xbox w4 u (.slice A4 n4 c4)
        have HG5 := Lib.hid ((HG3.out.trans g4).trans hg5)
        have HS5 := Lib.hid (rsame8_any u t (.slice A4 n4 c4) (.slice A n c) W5 (hown4.tov.gr hg5) (HV.out.gr HG5.out))
        rw [HSM.out] at HS5
        obtain ⟨q0, q1, q2, q3, q4, q5, q6, q7, q8, q9, q10, q11⟩ := HX.out.gr HG5.out
        obtain ⟨p0, p1, p2, p3, p4, p5, p6, p7, p8, p9, p10, p11⟩ := hx5
        clear g4 hg5 hown4 hn4
        go_upto_region 6 with (fail)
        rw [← hW5]
        clear hW5
        go_wp2_with fail
        refine HS5.out.mono ?_
        rintro e w6 ⟨rfl, g6⟩
        have HGZ := Lib.hid (HG5.out.trans g6)
        clear g6 p0 p1 p2 p3 p4 p5 p6 p7 p8 p9 p10 p11 q0 q1 q2 q3 q4 q5 q6 q7 q8 q9 q10 q11
        go_wp2_with fail
        refine (HDS.out _).mono ?_
        rintro e w7 ⟨v7, rfl, hown7, g7⟩
        obtain ⟨A7, c7, rfl, -, -⟩ := hown7.form
        obtain ⟨n7, hn7⟩ : ∃ n, n = x.ops.length := ⟨_, rfl⟩
        rw [← hn7] at hown7 ⊢
        obtain ⟨W8, hW8, hg8, hx8⟩ := xbox w7 x (.slice A7 n7 c7)
        have HG8 := Lib.hid ((HGZ.out.trans g7).trans hg8)
        have HE8 := Lib.hid (encode8_any x (.slice A7 n7 c7) HNX.out W8 (hown7.tov.gr hg8))
        rw [HEX.out] at HE8
        obtain ⟨p0, p1, p2, p3, p4, p5, p6, p7, p8, p9, p10, p11⟩ := hx8
        clear g7 hg8 hown7 hn7
        go_upto_region 9 with (fail)
        rw [← hW8]
        clear hW8
        go_wp2_with fail
        refine HE8.out.mono ?_
        rintro e w9 ⟨rfl, g9⟩
        have heq := HSS.out
        go_wp2_with fail
        go_ret
        exact ⟨rfl, HG.out.trans (HG8.out.trans g9)⟩
      · have HE := Lib.hid (enc_no hok)
        clear hok
        go_enter Try.func4, Try.ntmps4
        go_upto_region 1 with (fail)
        rw [← hW]
        clear hW
        go_wp2_with fail
        refine (awake8_any W).mono ?_
        rintro e w1 ⟨rfl, g1⟩
        have HG1 := Lib.hid g1
        obtain ⟨q0, q1, q2, q3, q4, q5, q6, q7, q8, q9, q10, q11⟩ := HX.out.gr g1
        clear g1
        go_wp2_with fail
        refine (HCP.out _ HG1.out).mono ?_
        rintro e w2 ⟨u2, rfl, hv2, g2⟩
        have HG2 := Lib.hid (HG1.out.trans g2)
        have HV2 := Lib.hid hv2
        obtain ⟨A2, c2, rfl⟩ := tov_form hv2
        clear q0 q1 q2 q3 q4 q5 q6 q7 q8 q9 q10 q11 g2 hv2
        go_wp2_with fail
        refine (HEN.out _ _ HV2.out).mono ?_
        rw [HE.out]
        rintro e w3 ⟨rfl, g3⟩
        have HGZ := Lib.hid (HG2.out.trans g3)
        clear g3
        go_wp2_with fail
        refine (HDS.out _).mono ?_
        rintro e w7 ⟨v7, rfl, hown7, g7⟩
        obtain ⟨A7, c7, rfl, -, -⟩ := hown7.form
        obtain ⟨n7, hn7⟩ : ∃ n, n = x.ops.length := ⟨_, rfl⟩
        rw [← hn7] at hown7 ⊢
        obtain ⟨W8, hW8, hg8, hx8⟩ := xbox w7 x (.slice A7 n7 c7)
        have HG8 := Lib.hid ((HGZ.out.trans g7).trans hg8)
        have HE8 := Lib.hid (encode8_any x (.slice A7 n7 c7) HNX.out W8 (hown7.tov.gr hg8))
        rw [HEX.out] at HE8
        obtain ⟨p0, p1, p2, p3, p4, p5, p6, p7, p8, p9, p10, p11⟩ := hx8
        clear g7 hg8 hown7 hn7
        go_upto_region 9 with (fail)
        rw [← hW8]
        clear hW8
        go_wp2_with fail
        refine HE8.out.mono ?_
        rintro e w9 ⟨rfl, g9⟩
        have heq := HSS.out
        go_wp2_with fail
        go_ret
        exact ⟨rfl, HG.out.trans (HG8.out.trans g9)⟩
    · simp only [if_neg hkx] at HDS
      clear hx hkx
      by_cases hok : okTx t
      · have HE := Lib.hid (enc_yes hok)
        obtain ⟨u, hu1, hu2, hu3⟩ := dec_enc HN.out hok
        have hd := fun w1 => decode8_any (txB t) (tx_small hok) w1
        unfold RetDec at hd
        rw [hu1] at hd
        simp only [if_pos hu2] at hd
        have HD1 := Lib.hid hd
        have HSM := Lib.hid hu3
        obtain ⟨T, hT⟩ : ∃ T, T = txB t := ⟨_, rfl⟩
        rw [← hT] at HE HD1
        clear hok hd hu1 hu2 hu3 hT
        go_enter Try.func4, Try.ntmps4
        go_upto_region 1 with (fail)
        rw [← hW]
        clear hW
        go_wp2_with fail
        refine (awake8_any W).mono ?_
        rintro e w1 ⟨rfl, g1⟩
        have HG1 := Lib.hid g1
        obtain ⟨q0, q1, q2, q3, q4, q5, q6, q7, q8, q9, q10, q11⟩ := HX.out.gr g1
        clear g1
        go_wp2_with fail
        refine (HCP.out _ HG1.out).mono ?_
        rintro e w2 ⟨u2, rfl, hv2, g2⟩
        have HG2 := Lib.hid (HG1.out.trans g2)
        have HV2 := Lib.hid hv2
        obtain ⟨A2, c2, rfl⟩ := tov_form hv2
        clear q0 q1 q2 q3 q4 q5 q6 q7 q8 q9 q10 q11 g2 hv2
        go_wp2_with fail
        refine (HEN.out _ _ HV2.out).mono ?_
        rw [HE.out]
        rintro e w3 ⟨rfl, g3⟩
        have HG3 := Lib.hid (HG2.out.trans g3)
        clear g3
        go_wp2_with fail
        refine (HD1.out _).mono ?_
        rintro e w4 ⟨v4, rfl, hown4, g4⟩
        obtain ⟨A4, c4, rfl, -, -⟩ := hown4.form
        obtain ⟨n4, hn4⟩ : ∃ n, n = u.ops.length := ⟨_, rfl⟩
        rw [← hn4] at hown4 ⊢
        obtain ⟨W5, hW5, hg5, hx5⟩ := xbox w4 u (.slice A4 n4 c4)
        have HG5 := Lib.hid ((HG3.out.trans g4).trans hg5)
        have HS5 := Lib.hid (rsame8_any u t (.slice A4 n4 c4) (.slice A n c) W5 (hown4.tov.gr hg5) (HV.out.gr HG5.out))
        rw [HSM.out] at HS5
        obtain ⟨q0, q1, q2, q3, q4, q5, q6, q7, q8, q9, q10, q11⟩ := HX.out.gr HG5.out
        obtain ⟨p0, p1, p2, p3, p4, p5, p6, p7, p8, p9, p10, p11⟩ := hx5
        clear g4 hg5 hown4 hn4
        go_upto_region 6 with (fail)
        rw [← hW5]
        clear hW5
        go_wp2_with fail
        refine HS5.out.mono ?_
        rintro e w6 ⟨rfl, g6⟩
        have HGZ := Lib.hid (HG5.out.trans g6)
        clear g6 p0 p1 p2 p3 p4 p5 p6 p7 p8 p9 p10 p11 q0 q1 q2 q3 q4 q5 q6 q7 q8 q9 q10 q11
        go_wp2_with fail
        refine (HDS.out _).mono ?_
        rintro e w7 ⟨rfl, g7⟩
        obtain ⟨W8, hW8, hg8, hx8⟩ := xbox w7 noTX (.slice none 0 0)
        have HG8 := Lib.hid ((HGZ.out.trans g7).trans hg8)
        have z11 := hx8.2.2.2.2.2.2.2.2.2.2.2
        clear g7 hg8 hx8
        go_upto_region 9 with (fail)
        rw [← hW8]
        clear hW8
        go_wp2_with fail
        go_ret
        exact ⟨rfl, HG.out.trans HG8.out⟩
      · have HE := Lib.hid (enc_no hok)
        clear hok
        go_enter Try.func4, Try.ntmps4
        go_upto_region 1 with (fail)
        rw [← hW]
        clear hW
        go_wp2_with fail
        refine (awake8_any W).mono ?_
        rintro e w1 ⟨rfl, g1⟩
        have HG1 := Lib.hid g1
        obtain ⟨q0, q1, q2, q3, q4, q5, q6, q7, q8, q9, q10, q11⟩ := HX.out.gr g1
        clear g1
        go_wp2_with fail
        refine (HCP.out _ HG1.out).mono ?_
        rintro e w2 ⟨u2, rfl, hv2, g2⟩
        have HG2 := Lib.hid (HG1.out.trans g2)
        have HV2 := Lib.hid hv2
        obtain ⟨A2, c2, rfl⟩ := tov_form hv2
        clear q0 q1 q2 q3 q4 q5 q6 q7 q8 q9 q10 q11 g2 hv2
        go_wp2_with fail
        refine (HEN.out _ _ HV2.out).mono ?_
        rw [HE.out]
        rintro e w3 ⟨rfl, g3⟩
        have HGZ := Lib.hid (HG2.out.trans g3)
        clear g3
        go_wp2_with fail
        refine (HDS.out _).mono ?_
        rintro e w7 ⟨rfl, g7⟩
        obtain ⟨W8, hW8, hg8, hx8⟩ := xbox w7 noTX (.slice none 0 0)
        have HG8 := Lib.hid ((HGZ.out.trans g7).trans hg8)
        have z11 := hx8.2.2.2.2.2.2.2.2.2.2.2
        clear g7 hg8 hx8
        go_upto_region 9 with (fail)
        rw [← hW8]
        clear hW8
        go_wp2_with fail
        go_ret
        exact ⟨rfl, HG.out.trans HG8.out⟩
end Go.Proofs.Yteagmdnpajalgaa
