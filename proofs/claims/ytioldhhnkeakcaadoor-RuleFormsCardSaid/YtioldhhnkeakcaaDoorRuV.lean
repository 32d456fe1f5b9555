/- Walk: the document's Form. -/
import Derived.Test.YtioldhhnkeakcaaDoorRuX
import Derived.Test.YtioldhhnkeakcaaDoorRuP
import Derived.Test.YtioldhhnkeakcaaDoorRuW
namespace Go.Proofs.YtioldhhnkeakcaaDoor
open Go.RowKit Go.Joins
set_option linter.unusedSimpArgs false
set_option linter.unusedVariables false

theorem scan_dropR {L : List RU} {ops : List TO} {j : Nat} (hj : j < ops.length) : scanE L (ops.drop j) = if (ruleR L ops[j].key).k = 0 then 140 else if fitsB (ruleR L ops[j].key).k ops[j].kind = false then 100 else scanE L (ops.drop (j + 1)) := by
  rw [List.drop_eq_getElem_cons hj]
  rfl
/-- Where nothing is scanned out, each operation has its rule. -/
theorem scan_found {L : List RU} : ∀ {ops : List TO}, scanE L ops = 0 → ∀ o ∈ ops, ∃ j, fIdx L o.key = some j
  | [], _, o, ho => by cases ho
  | x :: t, h, o, ho => by
    unfold scanE at h
    by_cases h0 : (ruleR L x.key).k = 0
    · rw [if_pos h0] at h; cases h
    rw [if_neg h0] at h
    by_cases h1 : fitsB (ruleR L x.key).k x.kind = false
    · rw [if_pos h1] at h; cases h
    rw [if_neg h1] at h
    rcases List.mem_cons.1 ho with rfl | ho
    · obtain ⟨j, _, hf, _⟩ := ruleR_kind (Or.inr h0)
      exact ⟨j, hf⟩
    · exact scan_found h o ho
set_option maxRecDepth 100000 in
set_option maxHeartbeats 16000000 in
theorem rform_any (v vo : Value) (L : List RU) (m : Int) (ops : List TO) (hks : ∀ r ∈ L, r.key.size ≤ 9223372036854775807) (hos : ∀ o ∈ ops, o.key.size ≤ 9223372036854775807 ∧ o.elem.size ≤ 281474976710656) (w : World) (hv : UV w v L) (ho : TOV w vo ops) :
    Calls Tryd.prog 8 #[v, .int .i64 m, vo] w fun e w' => e = .returned (.int .i64 (formD L m ops)) ∧ Gr w w' := by
  have HCK := Lib.hid (rcheck14_any v L hks w hv)
  have HOP := Lib.hid (fun o (ho2 : o ∈ ops) w1 => rop8_any o m (hos o ho2).1 w1)
  have HFI := Lib.hid (fun key w1 (g : Gr w w1) => rfind_any v L key w1 (hv.gr g))
  have HFT := Lib.hid (fun k op w1 => rfits_any k op w1)
  have HHO := Lib.hid (fun kind key elem w1 (g : Gr w w1) => holdsO_any vo ops kind key elem w1 (ho.gr g))
  have HOW := Lib.hid (fun o (ho2 : o ∈ ops) w1 => rown_any m o.elem (hos o ho2).2 w1)
  have HED := Lib.hid (fun o r w1 (g : Gr w w1) => owed_any vo ops o r w1 (ho.gr g))
  obtain ⟨A, c, rfl, l1, ⟨l2, _⟩, l3⟩ := hv
  have l2' : c ≤ 9223372036854775807 := l2
  obtain ⟨B, d, rfl, m1, ⟨m2, _⟩, m3⟩ := ho
  have m2' : d ≤ 9223372036854775807 := m2
  have HOC := Lib.hid m3
  have HRC := Lib.hid l3
  obtain ⟨N, hN⟩ : ∃ N, N = L.length := ⟨_, rfl⟩
  obtain ⟨n, hn⟩ : ∃ n, n = ops.length := ⟨_, rfl⟩
  have HN := Lib.hid hn
  have HNL := Lib.hid hN
  rw [← hN] at HCK HFI l1 ⊢
  rw [← hn] at HHO HED m1 ⊢
  obtain ⟨ce, hce⟩ : ∃ x, x = checkD L := ⟨_, rfl⟩
  rw [← hce] at HCK
  have HCE := Lib.hid hce
  clear hN hn l2 l3 m2 m3 hks hos hce
  by_cases h0 : ce = 0
  case neg =>
    have h0b : (ce != 0) = true := by simpa using h0
    have HZ : Hid (formD L m ops = ce) := Lib.hid (by unfold formD; rw [← HCE.out, if_pos h0])
    clear h0
    as_aux_lemma =>
      go_enter Tryd.func8, Tryd.ntmps8
      go_wp2_with fail
      refine HCK.out.mono ?_
      rintro e w1 ⟨rfl, g⟩
      have HG1 := Lib.hid g
      clear g
      go_wp2_with fail
      go_ret
      exact ⟨by rw [HZ.out]; rfl, HG1.out⟩
  subst h0
  have HBAD : Hid (okOpsB m ops = false → formD L m ops = 80) := Lib.hid (fun h => by unfold formD; rw [← HCE.out, if_neg (by decide), if_pos h])
  have HFC : Hid (okOpsB m ops = true → formD L m ops = if scanE L ops ≠ 0 then scanE L ops else if ops.all (goodD L m ops) = true then 0 else 141) := Lib.hid (fun h => by unfold formD; rw [← HCE.out, if_neg (by decide), if_neg (by rw [h]; decide)])
  by_cases ma : m < 0
  · have HZ := Lib.hid (HBAD.out (by unfold okOpsB; rw [decide_eq_false (by omega)]; rfl))
    as_aux_lemma =>
      go_enter Tryd.func8, Tryd.ntmps8
      go_wp2_with fail
      refine HCK.out.mono ?_
      rintro e w1 ⟨rfl, g⟩
      have HG1 := Lib.hid g
      clear g
      go_wp2_with fail
      go_ret
      exact ⟨by rw [HZ.out]; rfl, HG1.out⟩
  by_cases mb : 8 ≤ m
  · have HZ := Lib.hid (HBAD.out (by unfold okOpsB; rw [decide_eq_false (by omega)]; rfl))
    as_aux_lemma =>
      go_enter Tryd.func8, Tryd.ntmps8
      go_wp2_with fail
      refine HCK.out.mono ?_
      rintro e w1 ⟨rfl, g⟩
      have HG1 := Lib.hid g
      clear g
      go_wp2_with fail
      go_ret
      exact ⟨by rw [HZ.out]; rfl, HG1.out⟩
  by_cases na : n < 1
  · have HZ := Lib.hid (HBAD.out (by unfold okOpsB; rw [decide_eq_false (by have := HN.out; omega)]; rfl))
    have na' : (n : Int) < 1 := by omega
    as_aux_lemma =>
      go_enter Tryd.func8, Tryd.ntmps8
      go_wp2_with fail
      refine HCK.out.mono ?_
      rintro e w1 ⟨rfl, g⟩
      have HG1 := Lib.hid g
      clear g
      go_wp2_with fail
      go_ret
      exact ⟨by rw [HZ.out]; rfl, HG1.out⟩
  have na' : ¬ (n : Int) < 1 := by omega
  by_cases nb : 8 < n
  · have HZ := Lib.hid (HBAD.out (by unfold okOpsB; rw [decide_eq_false (by have := HN.out; omega)]; rfl))
    have nb' : (8 : Int) < (n : Int) := by omega
    as_aux_lemma =>
      go_enter Tryd.func8, Tryd.ntmps8
      go_wp2_with fail
      refine HCK.out.mono ?_
      rintro e w1 ⟨rfl, g⟩
      have HG1 := Lib.hid g
      clear g
      go_wp2_with fail
      go_ret
      exact ⟨by rw [HZ.out]; rfl, HG1.out⟩
  have nb' : ¬ (8 : Int) < (n : Int) := by omega
  have HBD : Hid (∀ x (hx : x < ops.length), opB ops[x] m = false → okOpsB m ops = false) := Lib.hid (fun x hx h => by
    unfold okOpsB
    rw [show (ops.all fun o => opB o m) = false from List.all_eq_false.2 ⟨ops[x], List.getElem_mem hx, by rw [h]; decide⟩, Bool.and_false])
  have HGD : Hid ((∀ x (hx : x < ops.length), opB ops[x] m = true) → okOpsB m ops = true) := Lib.hid (fun h => by
    unfold okOpsB
    rw [decide_eq_true (by have := HN.out; omega), Bool.true_and, List.all_eq_true]
    intro x hx
    obtain ⟨i, hi, rfl⟩ := List.mem_iff_getElem.1 hx
    exact h i hi)
  clear na nb
  go_enter Tryd.func8, Tryd.ntmps8
  go_wp2_with fail
  refine HCK.out.mono ?_
  rintro e w1 ⟨rfl, g⟩
  have HG1 := Lib.hid g
  clear g
  go_wp2_with fail
  go_loopw [8] (fun i wr => ∃ j : Nat, j ≤ n ∧ i = .int .i64 (j : Int) ∧ Gr w wr ∧ Hid (∀ x (hx : x < ops.length), x < j → opB ops[x] m = true)) (fun i _ => n - (intOf i).toNat)
  case atStart => exact ⟨0, Nat.zero_le _, rfl, HG1.out, Lib.hid (fun _ _ h => absurd h (Nat.not_lt_zero _))⟩
  case round =>
    obtain ⟨j, hj, rfl, hgr, HAL⟩ := hrel
    by_cases hlt : j < n
    · have hjL : j < ops.length := by rw [← HN.out]; exact hlt
      obtain ⟨b, off, rfl, q4⟩ := HOC.out j hjL
      have HOJ := Lib.hid (HOP.out _ (List.getElem_mem hjL) wr)
      have HBJ := Lib.hid (HBD.out j hjL)
      obtain ⟨o, hof⟩ : ∃ o, o = ops[j] := ⟨_, rfl⟩
      rw [← hof] at q4 HOJ HBJ
      have HOF := Lib.hid hof
      obtain ⟨a0, a1, a2, a3⟩ := q4.gr hgr
      have HGR := Lib.hid hgr
      have u0 : (0 : Int) ≤ (j : Int) := by omega
      have u1 : (j : Int) < (n : Int) := by omega
      have u2 : wrap64 ((j : Int) + 1) = ((j + 1 : Nat) : Int) := by unfold wrap64; omega
      unfold tovs at HOJ
      rcases hob : opB o m with _ | _
      · rw [hob] at HOJ
        have HZ := Lib.hid (HBAD.out (HBJ.out hob))
        clear hob hof q4 hgr
        go_wp2_with fail
        refine HOJ.out.mono ?_
        rintro e w2 ⟨rfl, g⟩
        have HG2 := Lib.hid (HGR.out.trans g)
        clear g
        go_wp2_with fail
        go_ret
        exact ⟨by rw [HZ.out]; rfl, HG2.out⟩
      · rw [hob] at HOJ
        have HA2 : Hid (∀ x (hx : x < ops.length), x < j + 1 → opB ops[x] m = true) := Lib.hid (fun x hx hxq => by
          by_cases e : x = j
          · subst e; rw [← HOF.out]; exact hob
          · exact HAL.out x hx (by omega))
        clear hob hof q4 hgr
        go_wp2_with fail
        refine HOJ.out.mono ?_
        rintro e w2 ⟨rfl, g⟩
        have HG2 := Lib.hid (HGR.out.trans g)
        clear g
        go_wp2_with fail
        go_roundw
        case rel => exact ⟨j + 1, by omega, by go_num, HG2.out, HA2⟩
        case measure => simp [intOf]; omega
    · have HOK := Lib.hid (HGD.out (fun x hx => HAL.out x hx (by rw [← HN.out] at hx; omega)))
      have HF2 := Lib.hid (HFC.out HOK.out)
      have u1 : ¬ (j : Int) < (n : Int) := by omega
      have HGR := Lib.hid hgr
      clear hgr
      go_wp2_with fail
      go_loopw [9, 10] (fun i s10 wr => ∃ j : Nat, j ≤ n ∧ i = .int .i64 (j : Int) ∧ Gr w wr ∧ Hid (scanE L (ops.drop j) = scanE L ops)) (fun i s10 _ => n - (intOf i).toNat)
      case atStart => exact ⟨0, Nat.zero_le _, rfl, HGR.out, Lib.hid rfl⟩
      case round =>
        obtain ⟨j, hj, rfl, hgr, HSC⟩ := hrel
        by_cases hlt : j < n
        · have hjL : j < ops.length := by rw [← HN.out]; exact hlt
          have hdr := scan_dropR (L := L) hjL
          obtain ⟨b, off, rfl, q4⟩ := HOC.out j hjL
          obtain ⟨o, hof⟩ : ∃ o, o = ops[j] := ⟨_, rfl⟩
          rw [← hof] at q4 hdr
          have HQ4 := Lib.hid q4
          obtain ⟨a0, a1, a2, a3⟩ := q4.gr hgr
          have u0 : (0 : Int) ≤ (j : Int) := by omega
          have u1 : (j : Int) < (n : Int) := by omega
          have u2 : wrap64 ((j : Int) + 1) = ((j + 1 : Nat) : Int) := by unfold wrap64; omega
          have HGJ := Lib.hid hgr
          have HFJ := Lib.hid (HFI.out o.key wr hgr)
          cases hfi : fIdx L o.key with
          | none =>
            rw [fInt_none hfi] at HFJ
            have HZ : Hid (formD L m ops = 140) := Lib.hid (by rw [HF2.out, ← HSC.out, hdr, if_pos (show (ruleR L o.key).k = 0 from by rw [ruleR_none hfi]; rfl), if_pos (by decide)])
            clear hfi hdr hof q4 hgr
            as_aux_lemma =>
              go_wp2_with fail
              refine HFJ.out.mono ?_
              rintro e w2 ⟨rfl, g⟩
              have HG2 := Lib.hid (HGJ.out.trans g)
              clear g
              go_wp2_with fail
              go_ret
              exact ⟨by rw [HZ.out]; rfl, HG2.out⟩
          | some a =>
            rw [fInt_some hfi] at HFJ
            obtain ⟨haL, hia, -⟩ := fIdx_some.1 hfi
            have hra := ruleR_some hfi haL
            have hkn := (isF_key hia).2
            obtain ⟨b2, off2, rfl, q5⟩ := HRC.out a haL
            obtain ⟨r, hr⟩ : ∃ r, r = L[a] := ⟨_, rfl⟩
            rw [← hr] at q5 hra hkn
            rw [hra, if_neg (by omega)] at hdr
            have HDR := Lib.hid hdr
            have HQ5 := Lib.hid q5
            have x0 : (0 : Int) ≤ (a : Int) := by omega
            have x1 : (a : Int) < (N : Int) := by rw [HNL.out]; omega
            have x2 : ¬ (a : Int) < 0 := by omega
            obtain ⟨z, hz⟩ : ∃ z, z = fitsB r.k o.kind := ⟨_, rfl⟩
            have HFX := Lib.hid (HFT.out r.k o.kind)
            rw [← hz] at HFX
            have HZZ := Lib.hid hz
            clear hfi hdr hof q4 q5 hgr hia hra hkn hr hz haL
            as_aux_lemma =>
              go_wp2_with fail
              refine HFJ.out.mono ?_
              rintro e w2 ⟨rfl, g⟩
              go_upto_region 17 with (fail)
              have HG2 := Lib.hid (HGJ.out.trans g)
              clear g a0 a1 a2 a3
              refine qRegion (fun w' => TCell w' b (off + j * 4) o ∧ RCell w' b2 (off2 + a * 5) r ∧ Gr w w') (by kernel_rfl) (by kernel_rfl) ⟨HQ4.out.gr (HG2.out.trans (Gr.refl _).drew), HQ5.out.gr (HG2.out.trans (Gr.refl _).drew), HG2.out.trans (Gr.refl _).drew⟩ ?_
              iterate 10
                refine qTake (by kernel_rfl) ?_
                apply Exists.intro
                refine ⟨fun wq hq => ?_, ?_⟩
                · go_light
                  obtain ⟨⟨p0, p1, p2, p3⟩, ⟨q0, q1, q2, q3, q4⟩, hg⟩ := hq
                  go_simp
                  try with_reducible rfl
                  done
                try simp only [Act.put, List.setIfInBounds_toArray, List.set_cons_zero, List.set_cons_succ]
              refine qCall (by kernel_rfl) ?_
              apply Exists.intro
              refine ⟨?_, ?_⟩
              · apply Exists.intro
                apply Exists.intro
                refine ⟨fun wq => ?_, fun wq hq => ?_⟩
                · go_light
                  go_simp
                  exact ⟨rfl, rfl⟩
                · exact (HFX.out wq).mono fun e w'' ⟨he, hg⟩ => ⟨he, hq.1.gr hg, hq.2.1.gr hg, hq.2.2.trans hg⟩
              try simp only [Act.put, List.setIfInBounds_toArray, List.set_cons_zero, List.set_cons_succ]
              iterate 1
                refine qTake (by kernel_rfl) ?_
                apply Exists.intro
                refine ⟨fun wq hq => ?_, ?_⟩
                · go_light
                  obtain ⟨⟨p0, p1, p2, p3⟩, ⟨q0, q1, q2, q3, q4⟩, hg⟩ := hq
                  go_simp
                  try with_reducible rfl
                  done
                try simp only [Act.put, List.setIfInBounds_toArray, List.set_cons_zero, List.set_cons_succ]
              refine qNil ?_
              intro w3 hC
              have HG3 := Lib.hid hC.2.2
              clear hC
              rcases z with _ | _
              · have HZ : Hid (formD L m ops = 100) := Lib.hid (by rw [HF2.out, ← HSC.out, HDR.out, if_pos HZZ.out.symm, if_pos (by decide)])
                go_wp2_with fail
                go_ret
                exact ⟨by rw [HZ.out]; rfl, HG3.out⟩
              · have HS2 : Hid (scanE L (ops.drop (j + 1)) = scanE L ops) := Lib.hid (by rw [← HSC.out, HDR.out, ← HZZ.out, if_neg (by decide)])
                go_wp2_with fail
                go_roundw
                case rel => exact ⟨j + 1, by omega, by go_num, HG3.out, HS2⟩
                case measure => simp [intOf]; omega
        · have HS0 : Hid (scanE L ops = 0) := Lib.hid (by rw [← HSC.out, List.drop_eq_nil_of_le (by rw [← HN.out]; omega)]; rfl)
          have HF3 : Hid (formD L m ops = if ops.all (goodD L m ops) = true then 0 else 141) := Lib.hid (by rw [HF2.out, HS0.out, if_neg (by decide)])
          have HBG : Hid (∀ x (hx : x < ops.length), goodD L m ops ops[x] = false → formD L m ops = 141) := Lib.hid (fun x hx h => by
            rw [HF3.out, if_neg]
            rw [List.all_eq_true]
            intro q
            have := q _ (List.getElem_mem hx)
            rw [h] at this
            cases this)
          have u1 : ¬ (j : Int) < (n : Int) := by omega
          have HGR := Lib.hid hgr
          clear hgr
          as_aux_lemma =>
            go_wp2_with fail
            go_loopw [11, 12, 13] (fun i s12 s13 wr => ∃ q : Nat, q ≤ n ∧ i = .int .i64 (q : Int) ∧ Gr w wr ∧ Hid (∀ x (hx : x < ops.length), x < q → goodD L m ops ops[x] = true)) (fun i s12 s13 _ => n - (intOf i).toNat)
            case atStart => exact ⟨0, Nat.zero_le _, rfl, HGR.out, Lib.hid (fun _ _ h => absurd h (Nat.not_lt_zero _))⟩
            case round =>
              obtain ⟨q, hq, rfl, hgz, HAL⟩ := hrel
              by_cases hlq : q < n
              · have hqL : q < ops.length := by rw [← HN.out]; exact hlq
                obtain ⟨b, off, rfl, q4⟩ := HOC.out q hqL
                have HPO := Lib.hid (HOW.out _ (List.getElem_mem hqL))
                have hsf := scan_found HS0.out _ (List.getElem_mem hqL)
                have HBQ := Lib.hid (HBG.out q hqL)
                obtain ⟨o, hof⟩ : ∃ o, o = ops[q] := ⟨_, rfl⟩
                rw [← hof] at q4 HPO hsf HBQ
                have HOF := Lib.hid hof
                obtain ⟨a, hfi⟩ := hsf
                obtain ⟨haL, hia, -⟩ := fIdx_some.1 hfi
                have hra := ruleR_some hfi haL
                obtain ⟨b2, off2, rfl, q5⟩ := HRC.out a haL
                obtain ⟨r, hr⟩ : ∃ r, r = L[a] := ⟨_, rfl⟩
                rw [← hr] at q5 hra
                have HQ5 := Lib.hid q5
                have HFJ := Lib.hid (HFI.out o.key)
                rw [fInt_some hfi] at HFJ
                have x0 : (0 : Int) ≤ (a : Int) := by omega
                have x1 : (a : Int) < (N : Int) := by rw [HNL.out]; omega
                obtain ⟨a0, a1, a2, a3⟩ := q4.gr hgz
                have v0 : (0 : Int) ≤ (q : Int) := by omega
                have v1 : (q : Int) < (n : Int) := by omega
                have v2 : wrap64 ((q : Int) + 1) = ((q + 1 : Nat) : Int) := by unfold wrap64; omega
                obtain ⟨z8, hz8⟩ : ∃ z, z = decide (r.k = 8) := ⟨_, rfl⟩
                obtain ⟨zo, hzo⟩ : ∃ z, z = ownB m o.elem := ⟨_, rfl⟩
                have e8 : (r.k == 8) = z8 := by rw [int_beqR, hz8]
                rw [← hzo] at HPO
                have HBI : Hid (badIdD L m o = ((z8 && !zo) && decide (o.kind = 4))) := Lib.hid (by unfold badIdD; rw [hra, hz8, hzo])
                have HNX : Hid (goodD L m ops o = true → ∀ x (hx : x < ops.length), x < q + 1 → goodD L m ops ops[x] = true) := Lib.hid (fun hg x hx hxq => by
                  by_cases e : x = q
                  · subst e; rw [← HOF.out]; exact hg
                  · exact HAL.out x hx (Nat.lt_of_le_of_ne (Nat.le_of_lt_succ hxq) e))
                obtain ⟨W3, hW3, hg3, hb3⟩ := obox4 wr o
                have HG3 := Lib.hid (hgz.trans hg3)
                have HB3 := Lib.hid hb3
                have HE2 := Lib.hid (fun r w1 g => HED.out o r w1 g)
                unfold tovs at HE2
                obtain ⟨bz, hbz⟩ : ∃ x, x = wr.heap.size := ⟨_, rfl⟩
                clear hof q4 q5 hfi haL hia hra hr hz8 hzo
                go_upto_region 23 with (fail)
                change Code.wp Tryd.prog _ _ _ (wr.alloc (.cells (tovs o) 30))
                rw [← hW3]
                rw [← hbz] at HB3 ⊢
                clear hW3 hg3 hgz hb3 hbz a0 a1 a2 a3
                obtain ⟨c0, c1, c2, c3⟩ := HB3.out.c4
                have HPO2 := Lib.hid (fun w1 (g : Gr w w1) => HPO.out w1)
                go_cut [106] (fun s106 wx => s106 = .bool (crossB ops o) ∧ Hid (OBox wx bz o ∧ Gr w wx))
                case first =>
                  as_aux_lemma =>
                    by_cases h4 : o.kind = 4
                    · have k4b : (o.kind == 4) = true := by rw [h4]; rfl
                      have k7b : (o.kind == 7) = false := by rw [h4]; rfl
                      have HH5 := Lib.hid (fun w1 g => HHO.out 5 o.key o.elem w1 g)
                      obtain ⟨zc, hzc⟩ : ∃ z, z = holdsO ops 5 o.key o.elem := ⟨_, rfl⟩
                      rw [← hzc] at HH5
                      have HCX : Hid (crossB ops o = zc) := Lib.hid (by unfold crossB; rw [decide_eq_true h4, hzc, decide_eq_false (p := o.kind = 7) (by omega)]; simp)
                      clear h4 hzc
                      go_wp2_with fail
                      refine (HH5.out _ HG3.out).mono ?_
                      rintro e w4 ⟨rfl, g⟩
                      have HG4 := Lib.hid (HG3.out.trans g)
                      have HB4 := Lib.hid (HB3.out.gr g)
                      clear g c0 c1 c2 c3
                      obtain ⟨c0, c1, c2, c3⟩ := HB4.out.c4
                      rcases zc with _ | _
                      · go_wp2_with fail
                        go_meet
                        exact ⟨by first | (rw [HCX.out]; done) | (rw [HCX.out]; rfl) | (rw [HCX.out]; simp), Lib.hid ⟨HB4.out, HG4.out⟩⟩
                      · go_wp2_with fail
                        go_meet
                        exact ⟨by first | (rw [HCX.out]; done) | (rw [HCX.out]; rfl) | (rw [HCX.out]; simp), Lib.hid ⟨HB4.out, HG4.out⟩⟩
                    · by_cases h7 : o.kind = 7
                      · have k4b : (o.kind == 4) = false := by simpa using h4
                        have k7b : (o.kind == 7) = true := by rw [h7]; rfl
                        have HH8 := Lib.hid (fun w1 g => HHO.out 8 o.key ⟨#[]⟩ w1 g)
                        obtain ⟨zc, hzc⟩ : ∃ z, z = holdsO ops 8 o.key ⟨#[]⟩ := ⟨_, rfl⟩
                        rw [← hzc] at HH8
                        have HCX : Hid (crossB ops o = zc) := Lib.hid (by unfold crossB; rw [decide_eq_false h4, hzc, decide_eq_true h7]; simp)
                        clear h4 h7 hzc
                        go_wp2_with fail
                        refine (HH8.out _ HG3.out).mono ?_
                        rintro e w4 ⟨rfl, g⟩
                        have HG4 := Lib.hid (HG3.out.trans g)
                        have HB4 := Lib.hid (HB3.out.gr g)
                        clear g c0 c1 c2 c3
                        obtain ⟨c0, c1, c2, c3⟩ := HB4.out.c4
                        rcases zc with _ | _
                        · go_wp2_with fail
                          go_meet
                          exact ⟨by first | (rw [HCX.out]; done) | (rw [HCX.out]; rfl) | (rw [HCX.out]; simp), Lib.hid ⟨HB4.out, HG4.out⟩⟩
                        · go_wp2_with fail
                          go_meet
                          exact ⟨by first | (rw [HCX.out]; done) | (rw [HCX.out]; rfl) | (rw [HCX.out]; simp), Lib.hid ⟨HB4.out, HG4.out⟩⟩
                      · have k4b : (o.kind == 4) = false := by simpa using h4
                        have k7b : (o.kind == 7) = false := by simpa using h7
                        have HCX : Hid (crossB ops o = false) := Lib.hid (by unfold crossB; rw [decide_eq_false h4, decide_eq_false h7]; rfl)
                        clear h4 h7
                        go_wp2_with fail
                        go_meet
                        exact ⟨by first | (rw [HCX.out]; done) | (rw [HCX.out]; rfl) | (rw [HCX.out]; simp), Lib.hid ⟨HB3.out, HG3.out⟩⟩
                case rest =>
                  clear c0 c1 c2 c3
                  as_aux_lemma =>
                    obtain ⟨rfl, hcc⟩ := hcut
                    rename World => wc4
                    have HG4 := Lib.hid hcc.out.2
                    have HB4 := Lib.hid hcc.out.1
                    clear hcc
                    obtain ⟨c0, c1, c2, c3⟩ := HB4.out.c4
                    rcases hcr : crossB ops o with _ | _
                    · have HCR : Hid (crossB ops o = false) := Lib.hid hcr
                      clear hcr
                      go_upto_region 25 with (fail)
                      go_cut [127] (fun s127 wx => s127 = .bool (badIdD L m o) ∧ Hid (OBox wx bz o ∧ Gr w wx))
                      case first =>
                        as_aux_lemma =>
                          go_wp2_with fail
                          refine (HFJ.out _ HG4.out).mono ?_
                          rintro e w5 ⟨rfl, g⟩
                          have HG5 := Lib.hid (HG4.out.trans g)
                          have HB5 := Lib.hid (HB4.out.gr g)
                          clear g c0 c1 c2 c3
                          obtain ⟨c0, c1, c2, c3⟩ := HB5.out.c4
                          obtain ⟨k0, -, -, -, -⟩ := HQ5.out.gr HG5.out
                          rcases z8 with _ | _
                          · have HBX : Hid (badIdD L m o = false) := Lib.hid (by rw [HBI.out]; rfl)
                            go_wp2_with fail
                            go_meet
                            exact ⟨by first | (rw [HBX.out]; done) | (rw [HBX.out]; rfl) | (rw [HBX.out]; simp), Lib.hid ⟨HB5.out, HG5.out⟩⟩
                          · go_wp2_with fail
                            refine (HPO2.out _ HG5.out).mono ?_
                            rintro e w6 ⟨rfl, g⟩
                            have HG6 := Lib.hid (HG5.out.trans g)
                            have HB6 := Lib.hid (HB5.out.gr g)
                            clear g c0 c1 c2 c3
                            obtain ⟨c0, c1, c2, c3⟩ := HB6.out.c4
                            clear k0
                            rcases zo with _ | _
                            · obtain ⟨q4, hq4⟩ : ∃ z, z = decide (o.kind = 4) := ⟨_, rfl⟩
                              have k4q : (o.kind == 4) = q4 := by rw [int_beqR, hq4]
                              have HBX : Hid (badIdD L m o = q4) := Lib.hid (by rw [HBI.out, ← hq4]; rfl)
                              clear hq4
                              go_wp2_with fail
                              go_meet
                              exact ⟨by first | (rw [HBX.out]; done) | (rw [HBX.out]; rfl) | (rw [HBX.out]; simp), Lib.hid ⟨HB6.out, HG6.out⟩⟩
                            · have HBX : Hid (badIdD L m o = false) := Lib.hid (by rw [HBI.out]; rfl)
                              go_wp2_with fail
                              go_meet
                              exact ⟨by first | (rw [HBX.out]; done) | (rw [HBX.out]; rfl) | (rw [HBX.out]; simp), Lib.hid ⟨HB6.out, HG6.out⟩⟩
                      case rest =>
                        clear c0 c1 c2 c3
                        obtain ⟨rfl, hcc⟩ := hcut
                        rename World => wc7
                        have HG7 := Lib.hid hcc.out.2
                        have HB7 := Lib.hid hcc.out.1
                        clear hcc
                        obtain ⟨c0, c1, c2, c3⟩ := HB7.out.c4
                        rcases hbi : badIdD L m o with _ | _
                        · have HBO : Hid (badIdD L m o = false) := Lib.hid hbi
                          clear hbi
                          as_aux_lemma =>
                            go_wp2_with fail
                            go_loopw [13] (fun i wy => ∃ p : Nat, p ≤ N ∧ i = .int .i64 (p : Int) ∧ Gr w wy ∧ OBox wy bz o ∧ Hid (∀ x (hx : x < L.length), x < p → owedB ops o L[x] = true)) (fun i _ => N - (intOf i).toNat)
                            case atStart => exact ⟨0, Nat.zero_le _, rfl, HG7.out, HB7.out, Lib.hid (fun _ _ h => absurd h (Nat.not_lt_zero _))⟩
                            case round =>
                              clear c0 c1 c2 c3
                              obtain ⟨p, hp, rfl, hgy, hby, HAP⟩ := hrel
                              by_cases hlp : p < N
                              · have hpL : p < L.length := by rw [← HNL.out]; exact hlp
                                obtain ⟨b3, off3, hA3, q6⟩ := HRC.out p hpL
                                injection hA3 with hA3
                                injection hA3 with e1 e2
                                subst e1 e2
                                obtain ⟨f, hf⟩ : ∃ f, f = L[p] := ⟨_, rfl⟩
                                rw [← hf] at q6
                                have HQ6 := Lib.hid q6
                                have HF6 := Lib.hid hf
                                have HGY := Lib.hid hgy
                                have HBY := Lib.hid hby
                                have y0 : (0 : Int) ≤ (p : Int) := by omega
                                have y1 : (p : Int) < (N : Int) := by omega
                                have y2 : wrap64 ((p : Int) + 1) = ((p + 1 : Nat) : Int) := by unfold wrap64; omega
                                obtain ⟨z, hz⟩ : ∃ z, z = owedB ops o f := ⟨_, rfl⟩
                                have HEX := Lib.hid (fun w1 g => HE2.out f w1 g)
                                rw [← hz] at HEX
                                have HZZ := Lib.hid hz
                                clear q6 hf hgy hby hz
                                as_aux_lemma =>
                                  go_upto_region 30 with (fail)
                                  refine qRegion (fun w' => TC4 w' bz o ∧ RCell w' b2 (off2 + p * 5) f ∧ OBox w' bz o ∧ Gr w w') (by kernel_rfl) (by kernel_rfl) ⟨(HBY.out.gr (Gr.refl _).drew).c4, HQ6.out.gr (HGY.out.trans (Gr.refl _).drew), HBY.out.gr (Gr.refl _).drew, HGY.out.trans (Gr.refl _).drew⟩ ?_
                                  iterate 6
                                    refine qTake (by kernel_rfl) ?_
                                    apply Exists.intro
                                    refine ⟨fun wq hq => ?_, ?_⟩
                                    · go_light
                                      obtain ⟨⟨p0, p1, p2, p3⟩, ⟨q0, q1, q2, q3, q4⟩, hb, hg⟩ := hq
                                      go_simp
                                      try with_reducible rfl
                                      done
                                    try simp only [Act.put, List.setIfInBounds_toArray, List.set_cons_zero, List.set_cons_succ]
                                  refine qCall (by kernel_rfl) ?_
                                  apply Exists.intro
                                  refine ⟨?_, ?_⟩
                                  · apply Exists.intro
                                    apply Exists.intro
                                    refine ⟨fun wq => ?_, fun wq hq => ?_⟩
                                    · go_light
                                      go_simp
                                      exact ⟨rfl, rfl⟩
                                    · exact (HEX.out wq hq.2.2.2).mono fun e w'' ⟨he, hg⟩ => ⟨he, hq.1.gr hg, hq.2.1.gr hg, hq.2.2.1.gr hg, hq.2.2.2.trans hg⟩
                                  try simp only [Act.put, List.setIfInBounds_toArray, List.set_cons_zero, List.set_cons_succ]
                                  iterate 1
                                    refine qTake (by kernel_rfl) ?_
                                    apply Exists.intro
                                    refine ⟨fun wq hq => ?_, ?_⟩
                                    · go_light
                                      obtain ⟨⟨p0, p1, p2, p3⟩, ⟨q0, q1, q2, q3, q4⟩, hb, hg⟩ := hq
                                      go_simp
                                      try with_reducible rfl
                                      done
                                    try simp only [Act.put, List.setIfInBounds_toArray, List.set_cons_zero, List.set_cons_succ]
                                  refine qNil ?_
                                  intro w8 hC
                                  have HG8 := Lib.hid hC.2.2.2
                                  have HB8 := Lib.hid hC.2.2.1
                                  clear hC
                                  rcases z with _ | _
                                  · have HZ := Lib.hid (HBQ.out (by unfold goodD; rw [show (L.all fun r => owedB ops o r) = false from List.all_eq_false.2 ⟨L[p], List.getElem_mem hpL, by rw [← HF6.out, ← HZZ.out]; decide⟩, Bool.and_false]))
                                    go_wp2_with fail
                                    go_ret
                                    exact ⟨by rw [HZ.out]; rfl, HG8.out⟩
                                  · have HA2 : Hid (∀ x (hx : x < L.length), x < p + 1 → owedB ops o L[x] = true) := Lib.hid (fun x hx hxp => by
                                      by_cases e : x = p
                                      · subst e; rw [← HF6.out]; exact HZZ.out.symm
                                      · exact HAP.out x hx (Nat.lt_of_le_of_ne (Nat.le_of_lt_succ hxp) e))
                                    go_upto_region 29 with (fail)
                                    have HLP := Lib.hid hlp
                                    have HY2 := Lib.hid y2
                                    clear l1 l2' m1 m2' ma mb na' nb' hlt hj u1 hq hlq x0 x1 v0 v1 v2 hp hlp y0 y1 y2 e8
                                    go_wp2_with fail
                                    refine ⟨?rel, ?measure⟩
                                    case rel => exact ⟨p + 1, Nat.succ_le_of_lt HLP.out, congrArg (Value.int .i64) HY2.out, HG8.out, HB8.out, HA2⟩
                                    case measure => rw [show (wrap64 ((p : Int) + 1)) = ((p + 1 : Nat) : Int) from HY2.out]; exact Nat.sub_lt_sub_left HLP.out (Nat.lt_succ_self p)
                              · have HGX : Hid (∀ x (hx : x < ops.length), x < q + 1 → goodD L m ops ops[x] = true) := Lib.hid (HNX.out (by
                                  unfold goodD
                                  rw [HCR.out, HBO.out, show (L.all fun r => owedB ops o r) = true from List.all_eq_true.2 (fun x hx => by
                                    obtain ⟨i, hi, rfl⟩ := List.mem_iff_getElem.1 hx
                                    exact HAP.out i hi (by rw [← HNL.out] at hi; omega))]
                                  rfl))
                                have y1 : ¬ (p : Int) < (N : Int) := by omega
                                have HGY := Lib.hid hgy
                                clear hgy hby
                                go_upto_region 21 with (fail)
                                have HLQ := Lib.hid hlq
                                have HV2 := Lib.hid v2
                                clear l1 l2' m1 m2' ma mb na' nb' hlt hj u1 hq x0 x1 v0 v1 hp y1 hlp e8 hlq v2
                                as_aux_lemma =>
                                  go_wp2_with fail
                                  refine ⟨?rel, ?measure⟩
                                  case rel => exact ⟨q + 1, Nat.succ_le_of_lt HLQ.out, congrArg (Value.int .i64) HV2.out, HGY.out, HGX⟩
                                  case measure => rw [show (wrap64 ((q : Int) + 1)) = ((q + 1 : Nat) : Int) from HV2.out]; exact Nat.sub_lt_sub_left HLQ.out (Nat.lt_succ_self q)
                        · have HZ := Lib.hid (HBQ.out (by unfold goodD; rw [hbi, Bool.not_true, Bool.and_false, Bool.false_and]))
                          go_wp2_with fail
                          go_ret
                          exact ⟨by rw [HZ.out]; rfl, HG7.out⟩
                    · have HZ := Lib.hid (HBQ.out (by unfold goodD; rw [hcr]; rfl))
                      go_wp2_with fail
                      go_ret
                      exact ⟨by rw [HZ.out]; rfl, HG4.out⟩
              · have HZ : Hid (formD L m ops = 0) := Lib.hid (by
                  rw [HF3.out, if_pos]
                  rw [List.all_eq_true]
                  intro x hx
                  obtain ⟨i, hi, rfl⟩ := List.mem_iff_getElem.1 hx
                  exact HAL.out i hi (by rw [← HN.out] at hi; omega))
                have v1 : ¬ (q : Int) < (n : Int) := by omega
                as_aux_lemma =>
                  go_wp2_with fail
                  go_ret
                  exact ⟨by rw [HZ.out]; rfl, hgz⟩
end Go.Proofs.YtioldhhnkeakcaaDoor
