/- The law WireTakes. -/
import Derived.Test.YtfmfeokjnkbpeaaWiV
namespace Go.Proofs.Ytfmfeokjnkbpeaa.Wi
open Go.RowKit
set_option linter.unusedSimpArgs false

def LRel (K : List Nat) (k : Int) (wc : World) (t i : Value) (wr : World) : Prop := ∃ q : Nat, q ≤ K.length ∧ i = .int .i64 (q : Int) ∧ t = .bool (isIn (K.take q) k) ∧ Gr wc wr
def TRel (n : Nat) (wc : World) (i : Value) (wr : World) : Prop := ∃ q : Nat, q ≤ n ∧ i = .int .i64 (q : Int) ∧ Gr wc wr

set_option maxRecDepth 100000 in
set_option maxHeartbeats 40000000 in
theorem wireTakes_any (v : Value) (L : List P) (nx : Int) (s : Nat → Int) (k : Int) (w : World) (hv : PV w v L) (hf : Fit L) (hlen : (L.length + 1) * 40 ≤ 140737488355328) :
    Calls Try.prog 3 #[.agg (ncells v nx s), .int .i64 k] w fun e w' => e = .returned (.bool true) ∧ Gr w w' := by
  obtain ⟨A, c, hva, hc1, ⟨hc2, -⟩, hPC⟩ := id hv
  unfold maxLen at hc2
  obtain ⟨n, hn⟩ : ∃ n, n = L.length := ⟨_, rfl⟩
  have HN := Lib.hid hn
  rw [← hn] at hva hc1
  subst hva
  have HPC := Lib.hid hPC
  have hl40 : L.length * 40 ≤ 140737488355328 := by omega
  obtain ⟨K, hK⟩ : ∃ K, K = rdyTo s L L.length := ⟨_, rfl⟩
  obtain ⟨W, hW, hG, hB0, hz⟩ : ∃ W, W = w.alloc (.cells (ncells (.slice A n c) nx s) 25) ∧ Gr w W ∧ NB W w.heap.size (.slice A n c) nx s ∧ W.heap.size = w.heap.size + 1 := ⟨_, rfl, gr_box _ _, NB.new _ _ _ _, by simp⟩
  have HAW := Lib.hid (fun w => awake_any w)
  have HR1 := Lib.hid (fun wq (q : Gr w wq) => ready_any (.slice A n c) L nx s wq (hv.gr q) hl40)
  have HR2 := Lib.hid (fun wq (q : Gr w wq) => rready_any (.slice A n c) L nx s wq (hv.gr q) hl40)
  rw [← hK] at HR1 HR2
  have HRM := Lib.hid (fun wq (q : Gr w wq) => roomy_any (.slice A n c) L nx s wq (hv.gr q) hlen)
  have HV := Lib.hid hv
  have HFT := Lib.hid hf
  have HNB0 := Lib.hid hB0
  have HG := Lib.hid hG
  have HCAN : Hid (can s L k → isIn K k = true) := Lib.hid (fun h => by rw [hK]; exact isIn_can h)
  have HNOT : Hid (¬ can s L k → isIn K k = false) := Lib.hid (fun h => by rw [hK]; exact isIn_cannot h)
  have HL40 := Lib.hid hl40
  clear hv hf hn hG hB0 hz hPC hK hlen hl40
  go_enter Try.func3, Try.ntmps3
  go_upto_region 1 with (fail)
  rw [← hW]
  clear hW
  go_wp2_with fail
  refine (HAW.out _).mono ?_
  rintro e w1 ⟨rfl, g1⟩
  have HNB1 := Lib.hid (HNB0.out.gr g1)
  have HG1 := Lib.hid (HG.out.trans g1)
  clear g1
  go_upto_region 3 with (fail)
  refine wp_region_noPanic ?_
  refine wp_region_held_drew (S := fun w' => Gr w1 w') (by kernel_rfl) ((Gr.refl w1).drew) (fun hHeld => ?_)
  obtain ⟨X0, hX0⟩ : ∃ X, X = w1.drew := ⟨_, rfl⟩
  rw [← hX0] at hHeld ⊢
  have GX0 := Lib.hid hHeld
  clear hX0
  refine hTake (i := 0) rfl (by kernel_rfl) (by kernel_rfl) (by kernel_rfl) (by kernel_rfl) (by assumption) ?_
  apply Exists.intro
  refine ⟨fun _ _ _ h => h, fun wq hq => ?_, ?_⟩
  · go_light
    obtain ⟨h0, h1, h2, h3, h4, h5, h6, h7, h8, h9⟩ := HNB1.out.gr hq
    go_simp
    try with_reducible rfl
    done
  try simp only [Act.put, List.setIfInBounds_toArray, List.set_cons_zero, List.set_cons_succ]
  refine hTake (i := 2) rfl (by kernel_rfl) (by kernel_rfl) (by kernel_rfl) (by kernel_rfl) (by assumption) ?_
  apply Exists.intro
  refine ⟨fun _ _ _ h => h, fun wq hq => ?_, ?_⟩
  · go_light
    obtain ⟨h0, h1, h2, h3, h4, h5, h6, h7, h8, h9⟩ := HNB1.out.gr hq
    go_simp
    try with_reducible rfl
    done
  try simp only [Act.put, List.setIfInBounds_toArray, List.set_cons_zero, List.set_cons_succ]
  refine wpAnyH_ready (rs := [1]) (by kernel_rfl) (by simp) ?_
  refine AllReadyH.cons rfl (fun K' hK => ?_) AllReadyH.nil
  go_simp
  refine (HR1.out _ (HG1.out.trans GX0.out)).mono ?_
  rintro e X1 ⟨v5, rfl, ho5, g5⟩
  obtain ⟨A5, c5, hv5, hk5, hc5⟩ := own_form ho5
  obtain ⟨m, hm⟩ : ∃ m, m = K.length := ⟨_, rfl⟩
  rw [← hm] at hv5
  subst hv5
  have HI5 := Lib.hid (OI.iv ho5)
  have HM := Lib.hid hm
  have HE1 := Lib.hid g5
  clear ho5 g5 hm
  go_wp2_with fail
  refine hK.out _ _ (GX0.out.trans HE1.out) (fun hx => ?_)
  have GX1 := Lib.hid hx
  clear hK K'
  try simp only [Act.put, List.setIfInBounds_toArray, List.set_cons_zero, List.set_cons_succ]
  refine wpAnyH_ready (rs := [3]) (by kernel_rfl) (by simp) ?_
  refine AllReadyH.cons rfl (fun K' hK => ?_) AllReadyH.nil
  go_simp
  refine (HR2.out _ (HG1.out.trans GX1.out)).mono ?_
  rintro e X2 ⟨v6, rfl, ho6, g6⟩
  obtain ⟨A6, c6, hv6, hk6, hc6⟩ := own_form ho6
  rw [← HM.out] at hv6
  subst hv6
  have HI6 := Lib.hid (OI.iv ho6)
  have HI5 := Lib.hid (HI5.out.gr g6)
  have HE2 := Lib.hid g6
  clear ho6 g6
  go_wp2_with fail
  refine hK.out _ _ (GX1.out.trans HE2.out) (fun hx2 => ?_)
  have GX2 := Lib.hid hx2
  clear hK K' hx
  try simp only [Act.put, List.setIfInBounds_toArray, List.set_cons_zero, List.set_cons_succ]
  refine wpAnyH_ready (rs := [4]) (by kernel_rfl) (by simp) ?_
  refine AllReadyH.cons rfl (fun K' hK => ?_) AllReadyH.nil
  go_simp
  refine hK.out _ _ GX2.out (fun hx3 => ?_)
  clear hK K' hx2
  try simp only [Act.put, List.setIfInBounds_toArray, List.set_cons_zero, List.set_cons_succ]
  refine wpAnyH_ready (rs := [5]) (by kernel_rfl) (by simp) ?_
  refine AllReadyH.cons rfl (fun K' hK => ?_) AllReadyH.nil
  go_simp
  refine hK.out _ _ GX2.out (fun hx4 => ?_)
  clear hK K' hx3
  try simp only [Act.put, List.setIfInBounds_toArray, List.set_cons_zero, List.set_cons_succ]
  refine wpAnyH_done (by kernel_rfl) ?_ _
  refine NoPanic.normal ?_
  clear hx4 hHeld
  have HQ5 : Hid (∀ j (hj : j < K.length), ∃ b off, A5 = some ⟨b, off, none⟩ ∧ X2.cell? ⟨b, off + j, none⟩ = some (.int .i64 (K[j] : Int))) := Lib.hid (by
    obtain ⟨A', c', hvv, _, _, h3⟩ := HI5.out
    injection hvv with e1 e2 e3
    subst e1
    exact h3)
  have HQ6 : Hid (∀ j (hj : j < K.length), ∃ b off, A6 = some ⟨b, off, none⟩ ∧ X2.cell? ⟨b, off + j, none⟩ = some (.int .i64 (K[j] : Int))) := Lib.hid (by
    obtain ⟨A', c', hvv, _, _, h3⟩ := HI6.out
    injection hvv with e1 e2 e3
    subst e1
    exact h3)
  have hm5 : m ≤ c5 := by rw [HM.out]; exact hk5
  have hm6 : m ≤ c6 := by rw [HM.out]; exact hk6
  go_wp2_with fail
  go_loopw [7, 8] (fun t i wr => LRel K k X2 t i wr) (fun _ i _ => m - (intOf i).toNat)
  case atStart => exact ⟨0, Nat.zero_le _, rfl, rfl, Gr.refl _⟩
  case round =>
    obtain ⟨q, hq, rfl, rfl, hgr⟩ := hrel
    rw [← HM.out] at hq
    have HGR := Lib.hid hgr
    clear hgr
    by_cases hlt : q < m
    · have hqK : q < K.length := by rw [← HM.out]; exact hlt
      obtain ⟨b5, o5, rfl, r5⟩ := HQ5.out q hqK
      obtain ⟨b6, o6, rfl, r6⟩ := HQ6.out q hqK
      have hst := isIn_snoc hqK k
      obtain ⟨x, hx⟩ : ∃ x, x = K[q] := ⟨_, rfl⟩
      rw [← hx] at r5 r6 hst
      replace r5 := HGR.out.cell r5
      replace r6 := HGR.out.cell r6
      have hq0 : (0 : Int) ≤ (q : Int) := Int.natCast_nonneg _
      have hq1 : (q : Int) < (m : Int) := by omega
      rcases hb : isIn (K.take q) k with _ | _
      · have hst2 : isIn (K.take (q + 1)) k = ((x : Int) == k) := by rw [hst, hb]; rfl
        have HST := Lib.hid hst2
        clear hst hst2 hx hqK hb
        go_wp2_with fail
        go_quiet (fail)
        go_wp2_with fail
        go_roundw
        case rel => exact ⟨q + 1, by rw [← HM.out]; omega, by go_num, by rw [HST.out], HGR.out.trans ((Gr.refl _).drewN _)⟩
        case measure => simp [intOf]; omega
      · have hst2 : isIn (K.take (q + 1)) k = true := by rw [hst, hb]; rfl
        have HST := Lib.hid hst2
        clear hst hst2 hx hqK hb
        go_wp2_with fail
        go_quiet (fail)
        go_wp2_with fail
        go_roundw
        case rel => exact ⟨q + 1, by rw [← HM.out]; omega, by go_num, by rw [HST.out], HGR.out.trans ((Gr.refl _).drewN _)⟩
        case measure => simp [intOf]; omega
    · have hqe : K.take q = K := List.take_of_length_le (by rw [← HM.out]; omega)
      rw [hqe]
      obtain ⟨Lr, nr, sr, p, er, hTK, hRT, hcase⟩ : ∃ Lr nr sr p er, (∀ wq v', PV wq v' L → Calls Try.prog 10 #[.agg (ncells v' nx s), .int .i64 k] wq fun e w' => RetTake Lr nr sr p er wq e w') ∧
          (∀ wq v', PV wq v' L → Calls Try.prog 11 #[.agg (ncells v' nx s), .int .i64 k] wq fun e w' => RetTake Lr nr sr p er wq e w') ∧
          ((er = 40 ∧ isIn K k = false) ∨ (er = 0 ∧ isIn K k = true ∧ ∃ (j : Nat) (hj : j < L.length), k = j ∧ Lr = less L j ∧ p = L[j])) := by
        by_cases hcan : can s L k
        · obtain ⟨j, hj, hkj, ht⟩ := id hcan
          refine ⟨less L j, nx, s, L[j], 0, fun wq v' h => ?_, fun wq v' h => ?_, .inr ⟨rfl, HCAN.out hcan, j, hj, hkj, rfl, rfl⟩⟩
          · rw [hkj]; exact take_yes v' L nx s j hj ht wq h HFT.out HL40.out
          · rw [hkj]; exact rtake_yes v' L nx s j hj ht wq h HL40.out
        · exact ⟨[], 0, zs, p0, 40, fun wq v' h => take_bad v' L nx s k hcan wq h, fun wq v' h => rtake_bad v' L nx s k hcan wq h, .inl ⟨rfl, HNOT.out hcan⟩⟩
      obtain ⟨rd, hrd⟩ : ∃ b, b = isIn K k := ⟨_, rfl⟩
      rw [← hrd] at hcase ⊢
      have HTK := Lib.hid hTK
      have HRT := Lib.hid hRT
      have HCS := Lib.hid hcase
      have HGA := Lib.hid ((HG1.out.trans GX2.out).trans HGR.out)
      have HNBa := Lib.hid (HNB1.out.gr (GX2.out.trans HGR.out))
      clear hqe hTK hRT hcase hrd
      obtain ⟨a0, a1, a2, a3, a4, a5, a6, a7, a8, a9⟩ := HNBa.out
      go_wp2_with fail
      clear a0 a1 a2 a3 a4 a5 a6 a7 a8 a9
      refine (HRM.out _ HGA.out).mono ?_
      rintro e w3 ⟨v9, rfl, hmo, g3⟩
      obtain ⟨gm, cm, hv9, hrow⟩ := id hmo
      rw [← HN.out] at hv9
      subst hv9
      obtain ⟨W4, hW4, G4, hB4⟩ : ∃ W4, W4 = w3.alloc (.cells (ncells (.slice (some ⟨gm, 0, none⟩) n cm) nx s) 25) ∧ Gr w3 W4 ∧ NB W4 w3.heap.size (.slice (some ⟨gm, 0, none⟩) n cm) nx s := ⟨_, rfl, gr_box _ _, NB.new _ _ _ _⟩
      obtain ⟨b9, hb9⟩ : ∃ b, b = w3.heap.size := ⟨_, rfl⟩
      rw [← hb9] at hB4
      have HW4 := Lib.hid hW4
      have HB9e := Lib.hid hb9
      have HMO := Lib.hid (hmo.gr G4)
      have HBR := Lib.hid hB4
      have HNBb := Lib.hid (HNBa.out.gr (g3.trans G4))
      have HGB := Lib.hid ((HGA.out.trans g3).trans G4)
      clear hmo hrow g3 G4 hB4 hW4 hb9
      go_upto_region 14 with (fail)
      rw [← HB9e.out, ← HW4.out]
      obtain ⟨a0, a1, a2, a3, a4, a5, a6, a7, a8, a9⟩ := HBR.out
      go_wp2_with fail
      clear a0 a1 a2 a3 a4 a5 a6 a7 a8 a9
      refine (HTK.out _ _ HMO.out.po.pv).mono ?_
      rintro e w5 ⟨v10, rfl, ho10, g5⟩
      obtain ⟨A10, c10, hv10, hl10, hc10⟩ := ho10.form
      obtain ⟨n1, hn1⟩ : ∃ m, m = Lr.length := ⟨_, rfl⟩
      rw [← hn1] at hv10 hl10
      subst hv10
      have HN1 := Lib.hid hn1
      obtain ⟨W6, hW6, G6, hB10, hB11, hz6⟩ : ∃ W6, W6 = (w5.alloc (.cells (ncells (.slice A10 n1 c10) nr sr) 25)).alloc (.cells (pcells p) 31) ∧ Gr w5 W6 ∧ NB W6 w5.heap.size (.slice A10 n1 c10) nr sr ∧ PB W6 (w5.heap.size + 1) p ∧ W6.heap.size = w5.heap.size + 1 + 1 := by
        have h := PB.new (w5.alloc (.cells (ncells (.slice A10 n1 c10) nr sr) 25)) p
        rw [show (w5.alloc (.cells (ncells (.slice A10 n1 c10) nr sr) 25)).heap.size = w5.heap.size + 1 by simp] at h
        exact ⟨_, rfl, (gr_box _ _).alloc _, (NB.new _ _ _ _).gr (gr_box _ _), h, by simp⟩
      obtain ⟨b10, hb10⟩ : ∃ b, b = w5.heap.size := ⟨_, rfl⟩
      rw [← hb10] at hB10 hB11
      have HW6 := Lib.hid hW6
      have HB10e := Lib.hid hb10
      have HPV10 := Lib.hid (ho10.pv.gr G6)
      have HBA := Lib.hid hB10
      have HBP := Lib.hid hB11
      have HBR := Lib.hid (HBR.out.gr (g5.trans G6))
      have HMO := Lib.hid (HMO.out.gr (g5.trans G6))
      have HNBb := Lib.hid (HNBb.out.gr (g5.trans G6))
      have HGB := Lib.hid ((HGB.out.trans g5).trans G6)
      clear ho10 g5 G6 hB10 hB11 hW6 hb10 hn1 hz6
      go_upto_region 15 with (fail)
      rw [← HB10e.out, ← HW6.out]
      obtain ⟨a0, a1, a2, a3, a4, a5, a6, a7, a8, a9⟩ := HNBb.out
      go_wp2_with fail
      clear a0 a1 a2 a3 a4 a5 a6 a7 a8 a9
      refine (HRT.out _ _ (HV.out.gr HGB.out)).mono ?_
      rintro e w7 ⟨v13, rfl, ho13, g7⟩
      obtain ⟨A13, c13, hv13, -, -⟩ := ho13.form
      rw [← HN1.out] at hv13
      subst hv13
      obtain ⟨W8, hW8, G8, hB13, hB14⟩ : ∃ W8, W8 = (w7.alloc (.cells (ncells (.slice A13 n1 c13) nr sr) 25)).alloc (.cells (pcells p) 31) ∧ Gr w7 W8 ∧ NB W8 w7.heap.size (.slice A13 n1 c13) nr sr ∧ PB W8 (w7.heap.size + 1) p := by
        have h := PB.new (w7.alloc (.cells (ncells (.slice A13 n1 c13) nr sr) 25)) p
        rw [show (w7.alloc (.cells (ncells (.slice A13 n1 c13) nr sr) 25)).heap.size = w7.heap.size + 1 by simp] at h
        exact ⟨_, rfl, (gr_box _ _).alloc _, (NB.new _ _ _ _).gr (gr_box _ _), h⟩
      obtain ⟨b13, hb13⟩ : ∃ b, b = w7.heap.size := ⟨_, rfl⟩
      rw [← hb13] at hB13 hB14
      have HW8 := Lib.hid hW8
      have HB13e := Lib.hid hb13
      have HPV13 := Lib.hid (ho13.pv.gr G8)
      have HBB := Lib.hid hB13
      have HBQ := Lib.hid hB14
      have HPV10 := Lib.hid (HPV10.out.gr (g7.trans G8))
      have HBA := Lib.hid (HBA.out.gr (g7.trans G8))
      have HBP := Lib.hid (HBP.out.gr (g7.trans G8))
      have HBR := Lib.hid (HBR.out.gr (g7.trans G8))
      have HMO := Lib.hid (HMO.out.gr (g7.trans G8))
      have HNBb := Lib.hid (HNBb.out.gr (g7.trans G8))
      have HGB := Lib.hid ((HGB.out.trans g7).trans G8)
      clear ho13 g7 G8 hB13 hB14 hW8 hb13
      have HSM := Lib.hid (same_yes (.slice A10 n1 c10) (.slice A13 n1 c13) Lr nr sr W8 HPV10.out HPV13.out)
      have HKP := Lib.hid (fun wq (q : Gr W8 wq) => kept_any (.slice (some ⟨gm, 0, none⟩) n cm) (.slice A n c) L nx s _ wq (HMO.out.gr q) (HV.out.gr (HGB.out.trans q)))
      have he := fun w => equal_p p w
      go_upto_region 16 with (fail)
      rw [← HB13e.out, ← HW8.out]
      obtain ⟨a0, a1, a2, a3, a4, a5, a6, a7, a8, a9⟩ := HBA.out
      obtain ⟨b0, b1, b2, b3, b4, b5, b6, b7, b8, b9'⟩ := HBB.out
      rcases HCS.out with ⟨rfl, rfl⟩ | ⟨rfl, rfl, j, hj, hkj, hLr, hp⟩
      · go_wp2_with fail
        clear a0 a1 a2 a3 a4 a5 a6 a7 a8 a9 b0 b1 b2 b3 b4 b5 b6 b7 b8 b9'
        refine HSM.out.mono ?_
        rintro e w9 ⟨rfl, g9⟩
        obtain ⟨p0', p1', p2', p3'⟩ := HBP.out.gr g9
        obtain ⟨q0', q1', q2', q3'⟩ := HBQ.out.gr g9
        obtain ⟨a0, a1, a2, a3, a4, a5, a6, a7, a8, a9⟩ := HBR.out.gr g9
        obtain ⟨b0, b1, b2, b3, b4, b5, b6, b7, b8, b9'⟩ := HNBb.out.gr g9
        have HG9 := Lib.hid g9
        clear g9
        go_wp2_with fail
        clear p0' p1' p2' p3' q0' q1' q2' q3' a0 a1 a2 a3 a4 a5 a6 a7 a8 a9 b0 b1 b2 b3 b4 b5 b6 b7 b8 b9' he
        refine (HKP.out _ HG9.out).mono ?_
        rintro e w10 ⟨rfl, g10⟩
        have HG10 := Lib.hid ((HGB.out.trans HG9.out).trans g10)
        clear g10
        go_wp2_with fail
        go_ret
        exact ⟨rfl, HG10.out⟩
      · subst hkj
        go_wp2_with fail
        clear a0 a1 a2 a3 a4 a5 a6 a7 a8 a9 b0 b1 b2 b3 b4 b5 b6 b7 b8 b9'
        refine HSM.out.mono ?_
        rintro e w9 ⟨rfl, g9⟩
        obtain ⟨p0', p1', p2', p3'⟩ := HBP.out.gr g9
        obtain ⟨q0', q1', q2', q3'⟩ := HBQ.out.gr g9
        obtain ⟨a0, a1, a2, a3, a4, a5, a6, a7, a8, a9⟩ := HBR.out.gr g9
        obtain ⟨b0, b1, b2, b3, b4, b5, b6, b7, b8, b9'⟩ := HNBb.out.gr g9
        have HG9 := Lib.hid g9
        clear g9
        go_wp2_with fail
        clear p0' p1' p2' p3' q0' q1' q2' q3' a0 a1 a2 a3 a4 a5 a6 a7 a8 a9 b0 b1 b2 b3 b4 b5 b6 b7 b8 b9'
        refine (HKP.out _ HG9.out).mono ?_
        rintro e w10 ⟨rfl, g10⟩
        have HGX10 := Lib.hid (HG9.out.trans g10)
        have HG10 := Lib.hid ((HGB.out.trans HG9.out).trans g10)
        clear g10
        have hjn : j < n := by rw [HN.out]; exact hj
        obtain ⟨pb, po, hA, r0, r1, r2, r3⟩ := HPC.out j hj
        subst hA
        rw [← hp] at r0 r1 r2 r3
        replace r0 := HG10.out.cell r0
        replace r1 := HG10.out.cell r1
        replace r2 := HG10.out.cell r2
        replace r3 := HG10.out.cell r3
        obtain ⟨p0', p1', p2', p3'⟩ := HBP.out.gr HGX10.out
        have a0 := (HBA.out.gr HGX10.out).1
        have c0 := (HNBb.out.gr HGX10.out).1
        have hn1 : n1 = n - 1 := by rw [HN1.out, hLr, less_len hj, HN.out]
        have e1 : IntKind.i64.wrap ((n : Int) - 1) = (n1 : Int) := by
          rw [show (n : Int) - 1 = (n1 : Int) by omega]
          exact IntWalk.i64_in _ ⟨by omega, by omega⟩
        have hj0 : (0 : Int) ≤ (j : Int) := Int.natCast_nonneg _
        have hj1 : (j : Int) < (n : Int) := by omega
        have HLR := Lib.hid hLr
        have HJ := Lib.hid hj
        clear hp hLr
        go_upto_region 20 with (fail)
        go_quiet (fail)
        obtain ⟨W11, hW11, G11⟩ : ∃ W11, W11 = w10.drewN nq ∧ Gr w10 W11 := ⟨_, rfl, (Gr.refl _).drewN _⟩
        rw [← hW11]
        have HGX11 := Lib.hid (HGX10.out.trans G11)
        have HG11 := Lib.hid (HG10.out.trans G11)
        clear hW11 G11 r0 r1 r2 r3 p0' p1' p2' p3' a0 c0 he e1
        go_wp2_with fail
        go_loopw [16] (fun i wr => TRel n1 W11 i wr) (fun i _ => n1 - (intOf i).toNat)
        case atStart => exact ⟨0, Nat.zero_le _, rfl, Gr.refl _⟩
        case round =>
          obtain ⟨t, ht, rfl, hgt⟩ := hrel
          have HGT := Lib.hid hgt
          have a0 := (HBA.out.gr (HGX11.out.trans hgt)).1
          clear hgt
          by_cases htl : t < n1
          · obtain ⟨y, hy, hly, hyy⟩ := less_at HJ.out (i := t) (by rw [← HLR.out, ← HN1.out]; exact htl)
            have c0 := (HNBb.out.gr (HGX11.out.trans HGT.out)).1
            obtain ⟨A10', c10', hvv, _, _, hQ10⟩ := HPV10.out
            injection hvv with e1 e2 e3
            subst e1 e3
            obtain ⟨rb, ro, hA10, x0, x1, x2, x3⟩ := hQ10 t (by rw [← HN1.out]; exact htl)
            subst hA10
            obtain ⟨pb', po', hA', z0, z1, z2, z3⟩ := HPC.out y hy
            injection hA' with hA'
            injection hA' with h1 h2
            subst h1 h2
            obtain ⟨pp, hpp⟩ : ∃ pp, pp = L[y] := ⟨_, rfl⟩
            have hlr : ∀ h : t < Lr.length, Lr[t] = pp := fun h => by
              rw [hpp, ← hly]
              congr 1 <;> exact HLR.out
            rw [hlr] at x0 x1 x2 x3
            rw [← hpp] at z0 z1 z2 z3
            replace x0 := (HGX11.out.trans HGT.out).cell x0
            replace x1 := (HGX11.out.trans HGT.out).cell x1
            replace x2 := (HGX11.out.trans HGT.out).cell x2
            replace x3 := (HGX11.out.trans HGT.out).cell x3
            replace z0 := (HG11.out.trans HGT.out).cell z0
            replace z1 := (HG11.out.trans HGT.out).cell z1
            replace z2 := (HG11.out.trans HGT.out).cell z2
            replace z3 := (HG11.out.trans HGT.out).cell z3
            have he := fun w => equal_p pp w
            have ht0 : (0 : Int) ≤ (t : Int) := Int.natCast_nonneg _
            have ht1 : (t : Int) < (n1 : Int) := by omega
            have hyn : y < n := by rw [HN.out]; exact hy
            clear hQ10 hlr hly hpp e2
            by_cases hjt : j ≤ t
            · rw [if_pos hjt] at hyy
              subst hyy
              have hd : (j : Int) ≤ (t : Int) := by omega
              have hy0 : (0 : Int) ≤ (t : Int) + 1 := by omega
              have hy1 : (t : Int) + 1 < (n : Int) := by omega
              clear hy
              go_wp2_with fail
              go_quiet (fail)
              go_wp2_with fail
              go_roundw
              case rel => exact ⟨t + 1, by omega, by go_num, HGT.out.trans ((Gr.refl _).drewN _)⟩
              case measure => simp [intOf]; omega
            · rw [if_neg hjt] at hyy
              subst hyy
              have hd : ¬ (j : Int) ≤ (y : Int) := by omega
              have hy1 : (y : Int) < (n : Int) := by omega
              clear hy
              go_wp2_with fail
              go_quiet (fail)
              go_wp2_with fail
              go_roundw
              case rel => exact ⟨y + 1, by omega, by go_num, HGT.out.trans ((Gr.refl _).drewN _)⟩
              case measure => simp [intOf]; omega
          · go_wp2_with fail
            go_ret
            exact ⟨rfl, HG11.out.trans HGT.out⟩
end Go.Proofs.Ytfmfeokjnkbpeaa.Wi
