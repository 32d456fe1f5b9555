/- Walk: the document's All. -/
import Derived.Test.YtnihnkcmmnlaaaaDoorTabH
namespace Go.Proofs.YtnihnkcmmnlaaaaDoor
open Go.RowKit

/-- More pairs than a table may have. -/
theorem InInv.many {l : List UInt8} {H : List (List UInt8)} {k : Nat} {acc : List PR} (h : InInv H k acc) (hi : inB l = readAll H) (hm : 1024 < acc.length) : allR l = none := by
  rw [h.all] at hi
  rcases hr : readAll (H.drop k) with _ | N
  · rw [hr] at hi
    exact allR_none hi
  · rw [hr] at hi
    exact allR_many hi hm
set_option maxRecDepth 100000 in
set_option maxHeartbeats 4000000 in
theorem rall_any (s : ByteArray) (hs : s.size ≤ 1048576) (w : World) :
    Calls Tryd.prog 14 #[.string s] w fun e w' => RetAll (allR s.data.toList) w e w' := by
  have hz := Lib.size_eq s
  by_cases h8 : s.size < 8
  · have HF : Hid (allR s.data.toList = none) := Lib.hid (allR_none (by unfold inB; rw [if_pos (by omega)]))
    have t1 : (s.size : Int) < 8 := by omega
    clear hz hs
    go_enter Tryd.func14, Tryd.ntmps14
    go_wp2
    go_ret2
    rw [HF.out]
    exact ⟨rfl, Gr.refl _⟩
  have t1 : ¬ (s.size : Int) < 8 := by omega
  have hdat : (s.extract 0 (s.size - 8)).data.toList = s.data.toList.take (s.data.toList.length - 8) := by
    rw [Lib.extract_data, List.drop_zero, Nat.sub_zero, hz]
  have hez : (s.extract 0 (s.size - 8)).size = s.size - 8 := by rw [ByteArray.size_extract]; omega
  obtain ⟨H, hHe⟩ : ∃ H, H = scanAll (s.data.toList.take (s.data.toList.length - 8)) := ⟨_, rfl⟩
  have hcb := count_bytes H
  have hbl : bytesOf H ≤ s.size := by
    rw [hHe]
    refine Nat.le_trans (bytesOf_scan _ _ (Nat.le_refl _)) ?_
    rw [List.length_take]
    omega
  have hSc := fun w1 => rscan_any (s.extract 0 (s.size - 8)) (by omega) (by rw [hdat, ← hHe]; omega) w1
  rw [hdat, ← hHe] at hSc
  have HSC := Lib.hid hSc
  have HI : Hid (inB s.data.toList = if H.length = 0 then none else readAll H.dropLast) := Lib.hid (by
    unfold inB
    rw [if_neg (by omega), ← hHe])
  have HUS : Hid (bytesOf H ≠ s.size - 8 → allR s.data.toList = none) := Lib.hid (fun h => by
    refine allR_used ?_
    rw [← hHe, ← hz]
    exact h)
  have hlen : H.length ≤ 131072 := by omega
  have HBZ : Hid (∀ b ∈ H, b.length ≤ 1048576) := Lib.hid (fun b hb => by
    have := bytes_mem hb
    omega)
  have ht8 : ((s.size : Int) - 8).toNat = s.size - 8 := by omega
  have t6 : IntKind.i64.wrap ((s.size : Int) - 8) = (s.size : Int) - 8 := IntWalk.i64_in _ (by omega)
  have t7 : (0 : Int) ≤ (s.size : Int) - 8 := by omega
  have t9 : (s.size : Int) - 8 ≤ (s.size : Int) := by omega
  have hb6 : s.size ≤ 9223372036854775807 := by omega
  obtain ⟨by_, hby⟩ : ∃ n, n = bytesOf H := ⟨_, rfl⟩
  rw [← hby] at HUS hbl HSC
  have hs20 : s.size ≤ 1048576 := hs
  clear hdat hez hcb hSc hz hs hHe hby
  go_enter Tryd.func14, Tryd.ntmps14
  go_wp2_with fail
  refine (HSC.out _).mono ?_
  rintro e w1 ⟨v1, rfl, hown1, g1⟩
  have HO1 : Hid (SO w1 w.heap.size v1 (H.map bs)) := Lib.hid hown1
  have HG1 := Lib.hid g1
  obtain ⟨A1, c1, rfl, hc1, hc2⟩ := own_form hown1
  obtain ⟨nb, hnb⟩ : ∃ n, n = H.length := ⟨_, rfl⟩
  rw [List.length_map, ← hnb] at hc1 HO1
  rw [List.length_map, ← hnb]
  rw [← hnb] at HI hlen
  have HNB := Lib.hid hnb
  clear hown1 g1 t9 ht8 t1 hnb HSC
  by_cases hus : by_ = s.size - 8
  · have hu1 : ((by_ : Int) != (s.size : Int) - 8) = false := by
      rw [show (s.size : Int) - 8 = (by_ : Int) from by omega]
      simp
    clear hus
    by_cases hn0 : nb = 0
    · have HF : Hid (allR s.data.toList = none) := Lib.hid (allR_none (by rw [HI.out, if_pos hn0]))
      have t2 : ((nb : Int) == 0) = true := by simp [hn0]
      clear hn0
      go_wp2_with fail
      go_ret2
      rw [HF.out]
      exact ⟨rfl, HG1.out⟩
    · have HF : Hid (inB s.data.toList = readAll H.dropLast) := Lib.hid (by rw [HI.out, if_neg hn0])
      have t2 : ((nb : Int) == 0) = false := by simp; omega
      obtain ⟨D, hD⟩ : ∃ D, D = H.dropLast := ⟨_, rfl⟩
      rw [← hD] at HF
      obtain ⟨m, hm⟩ : ∃ m, m = nb - 1 := ⟨_, rfl⟩
      have hmD : m = D.length := by rw [hD, List.length_dropLast, ← HNB.out, hm]
      have HM := Lib.hid hmD
      have hw1 : IntKind.i64.wrap ((nb : Int) - 1) = (m : Int) := by
        rw [show (m : Int) = (nb : Int) - 1 from by omega]
        exact IntWalk.i64_in _ (by omega)
      have HW1 := Lib.hid hw1
      have HDM : Hid (∀ b ∈ D, b ∈ H) := Lib.hid (fun b hb => by
        subst hD
        exact List.dropLast_subset H hb)
      have HDJ : Hid (∀ j (hj : j < D.length) (hj2 : j < (H.map bs).length), (H.map bs)[j] = bs D[j]) := Lib.hid (fun j hj hj2 => by
        subst hD
        rw [List.getElem_map, List.getElem_dropLast])
      have hmnb : m < nb := by omega
      clear hmD hD hm hn0
      go_wp2_with fail
      clear hu1 t2 t6 t7 hw1
      go_loopw [6, 7] (fun vp i wr => PIRel D w.heap.size (.slice A1 nb c1) (H.map bs) w vp i wr) (fun _ i _ => m - (intOf i).toNat)
      case atStart => exact ⟨0, [], rfl, Nat.zero_le _, InInv.start D, PO.nil _ _, HO1.out, HG1.out⟩
      case round =>
        obtain ⟨k, acc, rfl, hk, hinv, hpo, hso, hgr⟩ := hrel
        rw [← HM.out] at hk
        have HINV := Lib.hid hinv
        have HPO := Lib.hid hpo
        have HSO := Lib.hid hso
        have HGR := Lib.hid hgr
        have hal := hinv.len
        have hw1 := HW1.out
        obtain ⟨Ap, cp, rfl, hp1, -⟩ := own_form hpo
        obtain ⟨na, hna⟩ : ∃ n, n = acc.length := ⟨_, rfl⟩
        rw [← hna] at HPO hal ⊢
        have HNA := Lib.hid hna
        clear hinv hpo hso hgr hna hp1
        by_cases hlt : k < m
        · have hkD : k < D.length := by rw [← HM.out]; exact hlt
          have hkH : k < (H.map bs).length := by rw [List.length_map, ← HNB.out]; omega
          obtain ⟨b, off, rfl, hc⟩ := HSO.out.sv.cell k hkH
          rw [HDJ.out k hkD hkH] at hc
          obtain ⟨bk, hbk⟩ : ∃ x, x = bs D[k] := ⟨_, rfl⟩
          have hbd : bk.data.toList = D[k] := by rw [hbk]; rfl
          have hbz : bk.size ≤ maxLen := by
            have := HBZ.out D[k] (HDM.out _ (List.getElem_mem hkD))
            rw [hbk, bs_size]
            unfold maxLen
            omega
          rw [← hbk] at hc
          have hU := fun w1 => runpack_any bk hbz w1
          rw [hbd] at hU
          have hm0 : (0 : Int) ≤ (k : Int) := by omega
          have hm1 : (k : Int) < (nb : Int) := by omega
          rcases hun : unpackL D[k] with _ | fs
          · have HE := Lib.hid (allR_none (HF.out.trans (HINV.out.bad hkD (bodyPairs_none hun))))
            rw [hun] at hU
            have HU := Lib.hid hU
            clear hU hun hbd hbk hbz
            go_wp2_with fail
            refine (HU.out _).mono ?_
            rintro e w2 ⟨rfl, g2⟩
            have HG2 := Lib.hid (HGR.out.trans g2)
            clear g2
            go_wp2_with fail
            go_ret2
            rw [HE.out]
            exact ⟨rfl, HG2.out⟩
          · rw [hun] at hU
            have HU := Lib.hid hU
            have hfs := fields_small hun
            obtain ⟨nf, hnf⟩ : ∃ n, n = fs.length := ⟨_, rfl⟩
            have hn4 : nf ≤ 4096 := by rw [hnf]; exact hfs.1
            by_cases hodd : nf % 2 = 0
            · have hst := HINV.out.step hkD hun (by rw [← hnf]; exact hodd)
              have hal2 : (acc ++ pairUp (fs.map bs)).length = na + nf / 2 := by rw [List.length_append, pairUp_len _ (by rw [List.length_map, ← hnf]; exact hodd), List.length_map, ← hnf, ← HNA.out]
              have HMANY : Hid (1024 < na + nf / 2 → allR s.data.toList = none) := Lib.hid (fun h => hst.many HF.out (by rw [hal2]; exact h))
              have HST := Lib.hid hst
              have hrem : ((nf : Int).tmod 2) = 0 := by
                rw [Int.tmod_eq_emod_of_nonneg (by omega)]; omega
              have hdiv : ((nf : Int).tdiv 2) = ((nf / 2 : Nat) : Int) := by
                rw [Int.tdiv_eq_ediv_of_nonneg (by omega)]; omega
              obtain ⟨nh, hnh⟩ : ∃ q, q = nf / 2 := ⟨_, rfl⟩
              rw [← hnh] at hdiv HMANY
              have HSUM : Hid (wrap64 ((na : Int) + (nh : Int)) = (na : Int) + (nh : Int) ∧ wrap64 (nh : Int) = (nh : Int)) := Lib.hid ⟨IntWalk.wrap64_in _ ⟨by omega, by omega⟩, IntWalk.wrap64_in _ ⟨by omega, by omega⟩⟩
              have HNH := Lib.hid hnh
              have HNF : Hid (nf = (fs.map bs).length) := Lib.hid (by rw [List.length_map]; exact hnf)
              obtain ⟨F, hF⟩ : ∃ F, F = fs.map bs := ⟨_, rfl⟩
              have hUF : Hid (∀ w1, Calls Tryd.prog 31 #[.string bk] w1 fun e w' => ∃ v, e = .returned (.tuple #[v, .int .i64 0]) ∧ SO w' w1.heap.size v F ∧ Gr w1 w') := Lib.hid (fun w1 => by rw [hF]; exact HU.out w1)
              rw [← hF] at HST HNF
              have HEV := Lib.hid hodd
              clear hU hun hbd hbk hbz hodd hfs hnf hF HU hst hal2 hnh
              obtain ⟨wo, rfl⟩ : ∃ x, x = wr := ⟨_, rfl⟩
              go_wp2_with fail
              refine (hUF.out _).mono ?_
              rintro e w2 ⟨v2, rfl, ho2, g2⟩
              have HG2 := Lib.hid (HGR.out.trans g2)
              obtain ⟨A2, c2, rfl, h2a, h2b⟩ := own_form ho2
              have HO2 := Lib.hid ho2
              rw [← HNF.out] at h2a HO2
              rw [← HNF.out]
              have HPO2 := Lib.hid (HPO.out.gr g2)
              have HSO2 := Lib.hid (HSO.out.gr g2)
              clear g2 ho2
              go_wp2_with fail
              · have hb : 1024 < na + nh := by
                  have h : (1024 : Int) < wrap64 ((na : Int) + wrap64 (nh : Int)) := by assumption
                  rw [HSUM.out.2, HSUM.out.1] at h
                  omega
                have HE := Lib.hid (HMANY.out hb)
                clear hb
                go_ret2
                rw [HE.out]
                exact ⟨rfl, HG2.out⟩
              go_loopw [6, 10] (fun vp i wr => PJRel acc w.heap.size (.slice (some ⟨b, off, none⟩) nb c1) (H.map bs) wo.heap.size (.slice A2 nf c2) F w vp i wr) (fun _ i _ => nf + 1 - (intOf i).toNat)
              case atStart => exact ⟨0, rfl, Nat.zero_le _, by show PO w2 _ _ (acc ++ []); rw [List.append_nil]; exact HPO2.out, HSO2.out, HO2.out, HG2.out⟩
              case round =>
                obtain ⟨t, rfl, ht, hpo, hso, hfo, hgr⟩ := hrel
                rw [← HNF.out] at ht
                have HP3 := Lib.hid hpo
                have HS3 := Lib.hid hso
                have HF3 := Lib.hid hfo
                have HG3 := Lib.hid hgr
                have hpl : (acc ++ pairUp (F.take (2 * t))).length = na + t := by rw [List.length_append, pairUp_take_len t F (by rw [← HNF.out]; exact ht), ← HNA.out]
                obtain ⟨A3, c3, hf3, -, -⟩ := own_form hpo
                rw [hpl] at hf3
                subst hf3
                have HPL := Lib.hid hpl
                obtain ⟨p, hp⟩ : ∃ p, p = 2 * t := ⟨_, rfl⟩
                rw [← hp] at ht HP3 HPL ⊢
                have HPE := Lib.hid hp
                clear hpo hso hfo hgr hpl hrem hp hdiv hw1
                by_cases hpl2 : p < nf
                · have hp1 : p + 1 < nf := by have := HEV.out; have := HPE.out; omega
                  have hpF : p + 1 < F.length := by rw [← HNF.out]; exact hp1
                  obtain ⟨g, a, rfl, -⟩ := HF3.out.sv.cell p (by omega)
                  obtain ⟨x, hx⟩ : ∃ x, x = F[p] := ⟨_, rfl⟩
                  obtain ⟨y, hy⟩ : ∃ y, y = F[p + 1] := ⟨_, rfl⟩
                  have HMK := Lib.hid (fun (w5 : World) (ho : SO w5 wo.heap.size (.slice (some ⟨g, a, none⟩) nf c2) F) (q : Gr w w5) => qf_of ho hpF hx hy q)
                  have HS : Hid (QF g a p x y w wr) := Lib.hid (HMK.out _ HF3.out HG3.out)
                  have HK := Lib.hid (pairUp_take t p F HPE.out hpF)
                  rw [← hx, ← hy] at HK
                  have c0 := HS.out.1
                  have c1' := HS.out.2.1
                  have t0 : (0 : Int) ≤ (p : Int) := by omega
                  have t1 : (p : Int) < (nf : Int) := by omega
                  have t3 : IntKind.i64.wrap ((p : Int) + 1) = (p : Int) + 1 := IntWalk.i64_in _ (by omega)
                  have t4 : (0 : Int) ≤ (p : Int) + 1 := by omega
                  have t5 : ((p : Int) + 1).toNat = p + 1 := by omega
                  have t6 : (p : Int) + 1 < (nf : Int) := by omega
                  have hsz : (na + t + 1) * 32 ≤ 140737488355328 := by have := HPE.out; omega
                  clear hx hy hpF
                  go_wp2_with fail
                  go_region_held3 (fun w' => QF g a p x y w w')
                    (first
                      | (with_reducible exact HS.out)
                      | (with_reducible exact QF.gr HS.out (Gr.refl _).drew)
                      | (with_reducible exact QF.gr (QF.gr HS.out (Gr.refl _).drew) (gr_box _ _))
                      | (with_reducible assumption))
                    (first
                      | (refine step_push_pairs (w0 := w) rfl (.tmp 73) (.tmp 84) rfl (.slice A3 (na + t) c3) _ _ [⟨x, y⟩] (na + t) 1 HPL.out.symm rfl rfl ((HP3.out.gr (Gr.refl _).drew).gr (gr_box _ _)) rfl (pv_one _ x y _ rfl) hsz ((HG3.out.drew).alloc _) ?_; intro A5 c5 w5 hown5 g5 hk5; have hF5 := hk5 _ _ _ ((HF3.out.gr (Gr.refl _).drew).gr (gr_box _ _)); have hS5 := hk5 _ _ _ ((HS3.out.gr (Gr.refl _).drew).gr (gr_box _ _)); have hQ5 := HMK.out _ hF5 g5))
                  have HP5 : Hid (PO w5 w.heap.size (.slice A5 (na + t + 1) c5) (acc ++ pairUp (F.take (p + 2)))) := Lib.hid (by rw [HK.out, ← List.append_assoc]; exact hown5)
                  have HG5 := Lib.hid g5
                  have HF5 := Lib.hid hF5
                  have HS5 := Lib.hid hS5
                  clear hQ5 hF5 hS5 hk5 hown5 g5 c0 c1' t0 t1 t3 t4 t5 t6 hsz
                  go_wp2
                  go_roundw
                  case rel => exact ⟨t + 1, by rw [show 2 * (t + 1) = 2 * t + 2 from by omega, ← HPE.out]; go_num, by rw [show 2 * (t + 1) = 2 * t + 2 from by omega, ← HPE.out, ← HNF.out]; omega, by rw [show 2 * (t + 1) = 2 * t + 2 from by omega, ← HPE.out]; exact HP5.out, HS5.out, HF5.out, HG5.out⟩
                  case measure => simp [intOf]; omega
                · have hpe : p = F.length := by rw [← HNF.out]; omega
                  have HP6 := HP3.out
                  rw [hpe, List.take_length] at HP6
                  have HP7 := Lib.hid HP6
                  clear HP6 hpe
                  go_wp2
                  go_roundw
                  case rel => exact ⟨k + 1, _, by go_num, by rw [← HM.out]; omega, HST.out, HP7.out, HS3.out, HG3.out⟩
                  case measure => simp [intOf]; omega
            · have HE := Lib.hid (allR_none (HF.out.trans (HINV.out.bad hkD (bodyPairs_odd hun (by rw [← hnf]; exact hodd)))))
              have hrem : ((nf : Int).tmod 2) = 1 := by
                rw [Int.tmod_eq_emod_of_nonneg (by omega)]; omega
              have HNF := Lib.hid hnf
              clear hU hun hbd hbk hbz hodd hfs
              go_wp2_with fail
              refine (HU.out _).mono ?_
              rintro e w2 ⟨v2, rfl, ho2, g2⟩
              have HG2 := Lib.hid (HGR.out.trans g2)
              obtain ⟨A2, c2, rfl, -, -⟩ := own_form ho2
              rw [List.length_map, ← HNF.out]
              clear g2 ho2 hnf
              go_wp2_with fail
              go_ret2
              rw [HE.out]
              exact ⟨rfl, HG2.out⟩
        · have hke : k = D.length := by rw [← HM.out]; omega
          have HE := Lib.hid (HF.out.trans (HINV.out.fin hke))
          have HRB := Lib.hid (rbuild_any _ acc wr HPO.out.pv (small_big HINV.out.small))
          clear hke
          by_cases hok : okTab acc
          · rw [buildR_ok hok] at HRB
            obtain ⟨T, hT⟩ : ∃ T, T = bs (tabL acc) := ⟨_, rfl⟩
            rw [← hT] at HRB
            have hTs : T = s ↔ tabL acc = s.data.toList := by rw [hT]; exact bs_eq
            by_cases he : T = s
            · have HA := Lib.hid (allR_yes HE.out ⟨hok, hTs.1 he⟩)
              have heq : (T.toList == s.toList) = true := eqS_iff.2 he
              clear hok hT hTs he
              go_wp2_with fail
              refine HRB.out.mono ?_
              rintro e w2 ⟨rfl, g2⟩
              have HG2 := Lib.hid (HGR.out.trans g2)
              have HP2 := Lib.hid (HPO.out.gr g2).pv
              clear g2
              go_wp2_with fail
              go_ret2
              rw [HA.out]
              exact ⟨_, rfl, HP2.out, HINV.out.small, HG2.out⟩
            · have HA := Lib.hid (allR_no HE.out (fun h => he (hTs.2 h.2)))
              have heq : (T.toList == s.toList) = false := eqS_ne he
              clear hok hT hTs he
              go_wp2_with fail
              refine HRB.out.mono ?_
              rintro e w2 ⟨rfl, g2⟩
              have HG2 := Lib.hid (HGR.out.trans g2)
              clear g2
              go_wp2_with fail
              go_ret2
              rw [HA.out]
              exact ⟨rfl, HG2.out⟩
          · have HA := Lib.hid (allR_no HE.out (fun h => hok h.1))
            have hbd := buildR_bad hok
            obtain ⟨T, hT⟩ : ∃ T, T = (buildR acc).1 := ⟨_, rfl⟩
            rw [← hT] at HRB
            obtain ⟨er, her⟩ : ∃ T, T = (buildR acc).2 := ⟨_, rfl⟩
            rw [← her] at HRB hbd
            have hor := hbd.2
            clear hok hT her hbd
            rcases hor with rfl | rfl
            all_goals
              go_wp2_with fail
              refine HRB.out.mono ?_
              rintro e w2 ⟨rfl, g2⟩
              have HG2 := Lib.hid (HGR.out.trans g2)
              clear g2
              go_wp2_with fail
              go_ret2
              rw [HA.out]
              exact ⟨rfl, HG2.out⟩
  · have HF := Lib.hid (HUS.out hus)
    have hu1 : ((by_ : Int) != (s.size : Int) - 8) = true := by
      simp only [bne_iff_ne]
      omega
    clear hus
    go_wp2_with fail
    go_ret2
    rw [HF.out]
    exact ⟨rfl, HG1.out⟩
end Go.Proofs.YtnihnkcmmnlaaaaDoor
