/- The law TxnWords. -/
import Derived.Test.YteagmdnpajalgaaTxG
namespace Go.Proofs.Yteagmdnpajalgaa
open Go.RowKit

def WordsRel (n : Nat) (w : World) (i : Value) (wr : World) : Prop := ∃ k : Nat, k ≤ n ∧ i = .int .i64 k ∧ Gr w wr
set_option maxRecDepth 100000 in
set_option maxHeartbeats 4000000 in
theorem words_law (key word : ByteArray) (o : TO) (m : Int) (va vb : Value) (La Lb : List TX) (w : World) (hk : key.size ≤ 9223372036854775807) (hok : o.key.size ≤ 9223372036854775807) (ha : XV w va La) (hb : XV w vb Lb) :
    Calls Try.prog 3 #[.string key, .string word, .agg (tovs o), .int .i64 m, va, vb] w fun e w' => e = .returned (.bool true) ∧ Gr w w' := by
  obtain ⟨W, hW, hg, hx⟩ := obox w o
  have HG := Lib.hid hg
  have HL1 := Lib.hid (fun (w1 : World) (g : Gr W w1) => sameL_any va vb La Lb w1 (ha.gr (hg.trans g)) (hb.gr (hg.trans g)))
  have HL2 := Lib.hid (fun (w1 : World) (g : Gr W w1) => rsameL_any va vb La Lb w1 (ha.gr (hg.trans g)) (hb.gr (hg.trans g)))
  have HL3 := Lib.hid (fun (w1 : World) (g : Gr W w1) => sameL_any va va La La w1 (ha.gr (hg.trans g)) (ha.gr (hg.trans g)))
  rw [sameL_self] at HL3
  have HS : Hid (TCell W.drew w.heap.size 0 o ∧ Gr W W.drew) := Lib.hid ⟨hx.gr (Gr.refl _).drew, (Gr.refl _).drew⟩
  obtain ⟨A, ca, rfl, la1, ⟨la2, _⟩, la3⟩ := ha
  obtain ⟨B, cb, rfl, lb1, ⟨lb2, _⟩, lb3⟩ := hb
  unfold maxLen at la2 lb2
  have HA := Lib.hid la3
  have HB := Lib.hid lb3
  obtain ⟨n, hn⟩ : ∃ n, n = La.length := ⟨_, rfl⟩
  obtain ⟨p, hp⟩ : ∃ n, n = Lb.length := ⟨_, rfl⟩
  rw [← hn] at la1 HL1 HL2 HL3 ⊢
  rw [← hp] at lb1 HL1 HL2 ⊢
  have HN := Lib.hid hn
  have HP := Lib.hid hp
  obtain ⟨r, hr⟩ : ∃ r, r = sameL La Lb := ⟨_, rfl⟩
  rw [← hr] at HL1 HL2
  have HKY := Lib.hid (fun w => key8_any key hk w)
  have HKR := Lib.hid (fun w => rkey8_any key hk w)
  obtain ⟨rk, hrk⟩ : ∃ r, r = keyS key := ⟨_, rfl⟩
  rw [← hrk] at HKY HKR
  have HM1 := Lib.hid (fun w => member8_any word w)
  have HM2 := Lib.hid (fun w => rmember8_any word w)
  obtain ⟨z, hz⟩ : ∃ r, r = memberZ word := ⟨_, rfl⟩
  rw [← hz] at HM1 HM2
  have HO1 := Lib.hid (fun w => op8_any o m hok w)
  have HO2 := Lib.hid (fun w => rop8_any o m hok w)
  obtain ⟨ro, hro⟩ : ∃ r, r = opB o m := ⟨_, rfl⟩
  rw [← hro] at HO1 HO2
  unfold tovs at hW HO1 HO2 ⊢
  clear hg hx la3 lb3 hn hp hr hrk hz hro hk hok
  go_enter Try.func3, Try.ntmps3
  go_upto_region 1 with (fail)
  rw [← hW]
  clear hW
  refine qRegion (fun w' => TCell w' w.heap.size 0 o ∧ Gr W w') (by kernel_rfl) (by kernel_rfl) HS.out ?_
  refine qCall (by kernel_rfl) ?_
  apply Exists.intro
  refine ⟨?_, ?_⟩
  · apply Exists.intro
    apply Exists.intro
    refine ⟨fun wq => ?_, fun wq hq => ?_⟩
    · go_light
      go_simp
      exact ⟨rfl, rfl⟩
    · exact (awake8_any wq).mono fun e w2 h => ⟨h.1, hq.1.gr h.2, hq.2.trans h.2⟩
  try simp only [Act.put, List.setIfInBounds_toArray, List.set_cons_zero, List.set_cons_succ]
  iterate 3
    refine qTake (by kernel_rfl) ?_
    apply Exists.intro
    refine ⟨fun wq hq => ?_, ?_⟩
    · go_light
      obtain ⟨⟨q0, q1, q2, q3⟩, -⟩ := hq
      go_simp
      try with_reducible rfl
      done
    try simp only [Act.put, List.setIfInBounds_toArray, List.set_cons_zero, List.set_cons_succ]
  refine qCall (by kernel_rfl) ?_
  apply Exists.intro
  refine ⟨?_, ?_⟩
  · apply Exists.intro
    apply Exists.intro
    refine ⟨fun wq => ?_, fun wq hq => ?_⟩
    · go_light
      go_simp
      exact ⟨rfl, rfl⟩
    · exact (HKY.out wq).mono fun e w2 h => ⟨h.1, h.2 ▸ hq⟩
  try simp only [Act.put, List.setIfInBounds_toArray, List.set_cons_zero, List.set_cons_succ]
  iterate 1
    refine qTake (by kernel_rfl) ?_
    apply Exists.intro
    refine ⟨fun wq hq => ?_, ?_⟩
    · go_light
      obtain ⟨⟨q0, q1, q2, q3⟩, -⟩ := hq
      go_simp
      try with_reducible rfl
      done
    try simp only [Act.put, List.setIfInBounds_toArray, List.set_cons_zero, List.set_cons_succ]
  refine qCall (by kernel_rfl) ?_
  apply Exists.intro
  refine ⟨?_, ?_⟩
  · apply Exists.intro
    apply Exists.intro
    refine ⟨fun wq => ?_, fun wq hq => ?_⟩
    · go_light
      go_simp
      exact ⟨rfl, rfl⟩
    · exact (HKR.out wq).mono fun e w2 h => ⟨h.1, h.2 ▸ hq⟩
  try simp only [Act.put, List.setIfInBounds_toArray, List.set_cons_zero, List.set_cons_succ]
  iterate 4
    refine qTake (by kernel_rfl) ?_
    apply Exists.intro
    refine ⟨fun wq hq => ?_, ?_⟩
    · go_light
      obtain ⟨⟨q0, q1, q2, q3⟩, -⟩ := hq
      go_simp
      try with_reducible rfl
      done
    try simp only [Act.put, List.setIfInBounds_toArray, List.set_cons_zero, List.set_cons_succ]
  refine qCall (by kernel_rfl) ?_
  apply Exists.intro
  refine ⟨?_, ?_⟩
  · apply Exists.intro
    apply Exists.intro
    refine ⟨fun wq => ?_, fun wq hq => ?_⟩
    · go_light
      go_simp
      exact ⟨rfl, rfl⟩
    · exact (HM1.out wq).mono fun e w2 h => ⟨h.1, h.2 ▸ hq⟩
  try simp only [Act.put, List.setIfInBounds_toArray, List.set_cons_zero, List.set_cons_succ]
  iterate 1
    refine qTake (by kernel_rfl) ?_
    apply Exists.intro
    refine ⟨fun wq hq => ?_, ?_⟩
    · go_light
      obtain ⟨⟨q0, q1, q2, q3⟩, -⟩ := hq
      go_simp
      try with_reducible rfl
      done
    try simp only [Act.put, List.setIfInBounds_toArray, List.set_cons_zero, List.set_cons_succ]
  refine qCall (by kernel_rfl) ?_
  apply Exists.intro
  refine ⟨?_, ?_⟩
  · apply Exists.intro
    apply Exists.intro
    refine ⟨fun wq => ?_, fun wq hq => ?_⟩
    · go_light
      go_simp
      exact ⟨rfl, rfl⟩
    · exact (HM2.out wq).mono fun e w2 h => ⟨h.1, h.2 ▸ hq⟩
  try simp only [Act.put, List.setIfInBounds_toArray, List.set_cons_zero, List.set_cons_succ]
  iterate 5
    refine qTake (by kernel_rfl) ?_
    apply Exists.intro
    refine ⟨fun wq hq => ?_, ?_⟩
    · go_light
      obtain ⟨⟨q0, q1, q2, q3⟩, -⟩ := hq
      go_simp
      try with_reducible rfl
      done
    try simp only [Act.put, List.setIfInBounds_toArray, List.set_cons_zero, List.set_cons_succ]
  refine qCall (by kernel_rfl) ?_
  apply Exists.intro
  refine ⟨?_, ?_⟩
  · apply Exists.intro
    apply Exists.intro
    refine ⟨fun wq => ?_, fun wq hq => ?_⟩
    · go_light
      go_simp
      exact ⟨rfl, rfl⟩
    · exact (HO1.out wq).mono fun e w2 h => ⟨h.1, hq.1.gr h.2, hq.2.trans h.2⟩
  try simp only [Act.put, List.setIfInBounds_toArray, List.set_cons_zero, List.set_cons_succ]
  iterate 2
    refine qTake (by kernel_rfl) ?_
    apply Exists.intro
    refine ⟨fun wq hq => ?_, ?_⟩
    · go_light
      obtain ⟨⟨q0, q1, q2, q3⟩, -⟩ := hq
      go_simp
      try with_reducible rfl
      done
    try simp only [Act.put, List.setIfInBounds_toArray, List.set_cons_zero, List.set_cons_succ]
  refine qCall (by kernel_rfl) ?_
  apply Exists.intro
  refine ⟨?_, ?_⟩
  · apply Exists.intro
    apply Exists.intro
    refine ⟨fun wq => ?_, fun wq hq => ?_⟩
    · go_light
      go_simp
      exact ⟨rfl, rfl⟩
    · exact (HO2.out wq).mono fun e w2 h => ⟨h.1, hq.1.gr h.2, hq.2.trans h.2⟩
  try simp only [Act.put, List.setIfInBounds_toArray, List.set_cons_zero, List.set_cons_succ]
  iterate 5
    refine qTake (by kernel_rfl) ?_
    apply Exists.intro
    refine ⟨fun wq hq => ?_, ?_⟩
    · go_light
      obtain ⟨⟨q0, q1, q2, q3⟩, -⟩ := hq
      go_simp
      try with_reducible rfl
      done
    try simp only [Act.put, List.setIfInBounds_toArray, List.set_cons_zero, List.set_cons_succ]
  refine qCall (by kernel_rfl) ?_
  apply Exists.intro
  refine ⟨?_, ?_⟩
  · apply Exists.intro
    apply Exists.intro
    refine ⟨fun wq => ?_, fun wq hq => ?_⟩
    · go_light
      go_simp
      exact ⟨rfl, rfl⟩
    · exact (HL1.out wq hq.2).mono fun e w2 h => ⟨h.1, hq.1.gr h.2, hq.2.trans h.2⟩
  try simp only [Act.put, List.setIfInBounds_toArray, List.set_cons_zero, List.set_cons_succ]
  iterate 2
    refine qTake (by kernel_rfl) ?_
    apply Exists.intro
    refine ⟨fun wq hq => ?_, ?_⟩
    · go_light
      obtain ⟨⟨q0, q1, q2, q3⟩, -⟩ := hq
      go_simp
      try with_reducible rfl
      done
    try simp only [Act.put, List.setIfInBounds_toArray, List.set_cons_zero, List.set_cons_succ]
  refine qCall (by kernel_rfl) ?_
  apply Exists.intro
  refine ⟨?_, ?_⟩
  · apply Exists.intro
    apply Exists.intro
    refine ⟨fun wq => ?_, fun wq hq => ?_⟩
    · go_light
      go_simp
      exact ⟨rfl, rfl⟩
    · exact (HL2.out wq hq.2).mono fun e w2 h => ⟨h.1, hq.1.gr h.2, hq.2.trans h.2⟩
  try simp only [Act.put, List.setIfInBounds_toArray, List.set_cons_zero, List.set_cons_succ]
  iterate 5
    refine qTake (by kernel_rfl) ?_
    apply Exists.intro
    refine ⟨fun wq hq => ?_, ?_⟩
    · go_light
      obtain ⟨⟨q0, q1, q2, q3⟩, -⟩ := hq
      go_simp
      try with_reducible rfl
      done
    try simp only [Act.put, List.setIfInBounds_toArray, List.set_cons_zero, List.set_cons_succ]
  refine qCall (by kernel_rfl) ?_
  apply Exists.intro
  refine ⟨?_, ?_⟩
  · apply Exists.intro
    apply Exists.intro
    refine ⟨fun wq => ?_, fun wq hq => ?_⟩
    · go_light
      go_simp
      exact ⟨rfl, rfl⟩
    · exact (HL3.out wq hq.2).mono fun e w2 h => ⟨h.1, hq.1.gr h.2, hq.2.trans h.2⟩
  try simp only [Act.put, List.setIfInBounds_toArray, List.set_cons_zero, List.set_cons_succ]
  iterate 2
    refine qTake (by kernel_rfl) ?_
    apply Exists.intro
    refine ⟨fun wq hq => ?_, ?_⟩
    · go_light
      obtain ⟨⟨q0, q1, q2, q3⟩, -⟩ := hq
      go_simp
      try with_reducible rfl
      done
    try simp only [Act.put, List.setIfInBounds_toArray, List.set_cons_zero, List.set_cons_succ]
  refine qNil ?_
  intro w3 hC
  have HG3 := Lib.hid (HG.out.trans hC.2)
  clear hC HS HL1 HL2 HL3 HKY HKR HM1 HM2 HO1 HO2 HG
  go_wp2_with fail
  go_loopw [13] (fun i wr => WordsRel n w i wr) (fun i _ => n - (intOf i).toNat)
  case atStart => exact ⟨0, Nat.zero_le _, rfl, HG3.out⟩
  case round =>
    obtain ⟨k, hk, rfl, hgr⟩ := hrel
    by_cases hlt : k < n
    case neg =>
      have t1 : ¬ (k : Int) < (n : Int) := by omega
      go_wp2_with fail
      go_ret
      exact ⟨rfl, hgr⟩
    by_cases hlt2 : k < p
    case neg =>
      have e1 : decide ((k : Int) < (n : Int)) = true := decide_eq_true (by omega)
      have t1 : ¬ (k : Int) < (p : Int) := by omega
      go_wp2_with fail
      go_ret
      exact ⟨rfl, hgr⟩
    have e1 : decide ((k : Int) < (n : Int)) = true := decide_eq_true (by omega)
    have e2 : decide ((k : Int) < (p : Int)) = true := decide_eq_true (by omega)
    have hkA : k < La.length := by rw [← HN.out]; exact hlt
    have hkB : k < Lb.length := by rw [← HP.out]; exact hlt2
    obtain ⟨b, off, rfl, ha⟩ := HA.out k hkA
    obtain ⟨b', off', rfl, hb⟩ := HB.out k hkB
    obtain ⟨f, hf⟩ : ∃ f, f = La[k] := ⟨_, rfl⟩
    obtain ⟨g, hg⟩ : ∃ g, g = Lb[k] := ⟨_, rfl⟩
    rw [← hf] at ha
    rw [← hg] at hb
    obtain ⟨vf, af, a0⟩ := ha.gr hgr
    obtain ⟨vg, ag, c0⟩ := hb.gr hgr
    have HGR := Lib.hid hgr
    have HS1 := Lib.hid (fun (w1 : World) (g1 : Gr wr w1) => same8_any f g vf vg w1 (af.gr g1) (ag.gr g1))
    have HS2 := Lib.hid (fun (w1 : World) (g1 : Gr wr w1) => rsame8_any f g vf vg w1 (af.gr g1) (ag.gr g1))
    obtain ⟨r2, hr2⟩ : ∃ r, r = sameT f g := ⟨_, rfl⟩
    rw [← hr2] at HS1 HS2
    have HST0 : Hid (XFix wr.drew b (off + k * 12) f vf ∧ XFix wr.drew b' (off' + k * 12) g vg ∧ Gr wr wr.drew) := Lib.hid ⟨a0.gr (Gr.refl _).drew, c0.gr (Gr.refl _).drew, (Gr.refl _).drew⟩
    clear ha hb hgr hr2 hf hg hkA hkB a0 c0 af ag
    go_upto_region 6 with (fail)
    refine qRegion (fun w' => XFix w' b (off + k * 12) f vf ∧ XFix w' b' (off' + k * 12) g vg ∧ Gr wr w') (by kernel_rfl) (by kernel_rfl) HST0.out ?_
    iterate 8
      refine qTake (by kernel_rfl) ?_
      apply Exists.intro
      refine ⟨fun wq hq => ?_, ?_⟩
      · go_light
        obtain ⟨⟨h0, h1, h2, h3, h4, h5, h6, h7, h8, h9, h10, h11⟩, ⟨q0, q1, q2, q3, q4, q5, q6, q7, q8, q9, q10, q11⟩, -⟩ := hq
        go_simp
        try with_reducible rfl
        done
      try simp only [Act.put, List.setIfInBounds_toArray, List.set_cons_zero, List.set_cons_succ]
    refine qCall (by kernel_rfl) ?_
    apply Exists.intro
    refine ⟨?_, ?_⟩
    · apply Exists.intro
      apply Exists.intro
      refine ⟨fun wq => ?_, fun wq hq => ?_⟩
      · go_light
        go_simp
        exact ⟨rfl, rfl⟩
      · exact (HS1.out wq hq.2.2).mono fun e w2 h => ⟨h.1, hq.1.gr h.2, hq.2.1.gr h.2, hq.2.2.trans h.2⟩
    try simp only [Act.put, List.setIfInBounds_toArray, List.set_cons_zero, List.set_cons_succ]
    iterate 8
      refine qTake (by kernel_rfl) ?_
      apply Exists.intro
      refine ⟨fun wq hq => ?_, ?_⟩
      · go_light
        obtain ⟨⟨h0, h1, h2, h3, h4, h5, h6, h7, h8, h9, h10, h11⟩, ⟨q0, q1, q2, q3, q4, q5, q6, q7, q8, q9, q10, q11⟩, -⟩ := hq
        go_simp
        try with_reducible rfl
        done
      try simp only [Act.put, List.setIfInBounds_toArray, List.set_cons_zero, List.set_cons_succ]
    refine qCall (by kernel_rfl) ?_
    apply Exists.intro
    refine ⟨?_, ?_⟩
    · apply Exists.intro
      apply Exists.intro
      refine ⟨fun wq => ?_, fun wq hq => ?_⟩
      · go_light
        go_simp
        exact ⟨rfl, rfl⟩
      · exact (HS2.out wq hq.2.2).mono fun e w2 h => ⟨h.1, hq.1.gr h.2, hq.2.1.gr h.2, hq.2.2.trans h.2⟩
    try simp only [Act.put, List.setIfInBounds_toArray, List.set_cons_zero, List.set_cons_succ]
    iterate 1
      refine qTake (by kernel_rfl) ?_
      apply Exists.intro
      refine ⟨fun wq hq => ?_, ?_⟩
      · go_light
        obtain ⟨⟨h0, h1, h2, h3, h4, h5, h6, h7, h8, h9, h10, h11⟩, ⟨q0, q1, q2, q3, q4, q5, q6, q7, q8, q9, q10, q11⟩, -⟩ := hq
        go_simp
        try with_reducible rfl
        done
      try simp only [Act.put, List.setIfInBounds_toArray, List.set_cons_zero, List.set_cons_succ]
    refine qNil ?_
    intro w4 hC
    have HG4 := Lib.hid (HGR.out.trans hC.2.2)
    clear hC HST0 HS1 HS2
    go_wp2_with fail
    go_roundw
    case rel => exact ⟨k + 1, by omega, by go_num, HG4.out⟩
    case measure => simp [intOf]; omega
end Go.Proofs.Yteagmdnpajalgaa
