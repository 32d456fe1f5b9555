/- The law WalMends: behind its plan a log is whole. -/
import Derived.Test.YtmkcgnljankmdaaDoorWalN
namespace Go.Proofs.YtmkcgnljankmdaaDoor
open Go.RowKit

set_option maxRecDepth 100000 in
set_option maxHeartbeats 4000000 in
theorem wmends_walk (v : Value) (L : List F) (p : ByteArray) (w : World) (hv : FV w v L) (hps : p.size ≤ 9223372036854775807) (hf : Fit L) (hsz : ∀ f ∈ L, f.size ≤ 1048576) (hlen : L.length * 48 ≤ 140737488355328) (hH : Halves w) :
    Calls Tryd.prog 5 #[.agg #[v], .string p] w fun e w' => e = .returned (.bool true) ∧ Gr w w' := by
  have HA := Lib.hid (fun w1 (g : Gr w w1) => wawake_any w1 (hH.gr g))
  have HH := Lib.hid hH
  have HV := Lib.hid hv
  have HFit := Lib.hid hf
  have HSZ := Lib.hid hsz
  obtain ⟨A, c, rfl, l1, ⟨l2, _⟩, l3⟩ := hv
  have HC := Lib.hid l3
  have hc63 : c ≤ 9223372036854775807 := l2
  obtain ⟨n, hn⟩ : ∃ n, n = L.length := ⟨_, rfl⟩
  have HN := Lib.hid hn
  rw [← hn] at l1 HV hlen ⊢
  have HG := Lib.hid (gr_box w (.cells #[.slice A n c] 24))
  clear hH hf hsz l2 l3 hn
  go_enter Tryd.func5, Tryd.ntmps5
  go_wp2_with fail
  refine (HA.out _ HG.out).mono ?_
  rintro e w1 ⟨rfl, g1⟩
  have HG1 := Lib.hid (HG.out.trans g1)
  have hb1 : w1.cell? ⟨w.heap.size, 0, none⟩ = some (.slice A n c) := g1.cell (by simp)
  have HB1 := Lib.hid hb1
  clear g1 hb1
  go_wp2_with fail
  go_loopw [5] (fun i wr => DNRel L n w1 i wr) (fun i _ => n - (intOf i).toNat)
  case atStart => exact ⟨0, rfl, Nat.zero_le _, fun x _ h => absurd h (Nat.not_lt_zero _), Gr.refl _⟩
  case round =>
    obtain ⟨a, rfl, ha, hu, hgr⟩ := hrel
    have HU := Lib.hid hu
    have HGR := Lib.hid hgr
    have hbx := hgr.cell HB1.out
    clear hu hgr
    by_cases hlt : a < n
    · go_wp2_with fail
      clear hbx
      go_loopw [6] (fun i wr => DMRel L a w1 i wr) (fun i _ => a - (intOf i).toNat)
      case atStart => exact ⟨0, rfl, Nat.zero_le _, fun _ y _ h => absurd h (Nat.not_lt_zero _), HGR.out⟩
      case round =>
        obtain ⟨b, rfl, hb, hne, hgr2⟩ := hrel
        have HNE := Lib.hid hne
        have HGR2 := Lib.hid hgr2
        clear hne
        by_cases hlt2 : b < a
        · have haL : a < L.length := by rw [← HN.out]; exact hlt
          have hbL : b < L.length := by omega
          obtain ⟨bk, off, rfl, q0, -, -⟩ := HC.out a haL
          obtain ⟨bk', off', hbk, r0, -, -⟩ := HC.out b hbL
          injection hbk with hbk
          injection hbk with e1 e2
          subst e1 e2
          have c0 := (HG1.out.trans hgr2).cell q0
          have c1 := (HG1.out.trans hgr2).cell r0
          have hbx := hgr2.cell HB1.out
          obtain ⟨x, hx⟩ : ∃ x, x = L[a].name := ⟨_, rfl⟩
          obtain ⟨y, hy⟩ : ∃ y, y = L[b].name := ⟨_, rfl⟩
          rw [← hx] at c0
          rw [← hy] at c1
          have hbn : b < n := by omega
          rcases hq : eqS x y with _ | _
          · have ht : (x.toList == y.toList) = false := hq
            have H2 : Hid (∀ (ha : a < L.length) z (hz : z < L.length), z < b + 1 → L[a].name ≠ L[z].name) := Lib.hid (fun ha z hz hzb => by
              by_cases e : z = b
              · subst e
                rw [← hx, ← hy]
                intro e2
                rw [e2, eqS_self] at hq
                cases hq
              · exact HNE.out ha z hz (by omega))
            clear q0 r0 hgr2 hx hy hq haL hbL
            go_wp2_with fail
            go_quiet (fail)
            go_wp2
            go_roundw
            case rel => exact ⟨b + 1, by go_num, by omega, H2.out, HGR2.out.drewN _⟩
            case measure => simp [intOf]; omega
          · have ht : (x.toList == y.toList) = true := hq
            clear q0 r0 hgr2 hx hy hq haL hbL
            go_wp2_with fail
            go_quiet (fail)
            go_wp2
            go_ret
            exact ⟨rfl, HG1.out.trans (HGR2.out.drewN _)⟩
        · have H2 := Lib.hid (uniq_step HU.out hlt2 HNE.out)
          clear hgr2
          go_wp2
          go_roundw
          case rel => exact ⟨a + 1, by go_num, by omega, H2.out, HGR2.out⟩
          case measure => simp [intOf]; omega
    · have hd : Dist L := Uniq.all (by have := HU.out; rw [show a = L.length by rw [← HN.out]; omega] at this; exact this)
      have HD := Lib.hid hd
      have HGW := Lib.hid (HG1.out.trans HGR.out)
      have HBX := Lib.hid hbx
      clear hd
      rcases hp : prefixB p with _ | _
      · have H1 := Lib.hid (fun w => open_no (.slice A n c) p w hp hps ⟨_, _, _, rfl⟩)
        clear hp
        go_wp2_with fail
        refine (H1.out _).mono ?_
        rintro e w2 ⟨v2, v3, rfl, hs2, ho3, g2⟩
        obtain ⟨A2, c2, hv2, -, -⟩ := so_form hs2
        obtain ⟨A3, c3, hv3, -, -⟩ := ho3.form
        have hv2 : v2 = .slice A2 0 c2 := hv2
        have hv3 : v3 = .slice A3 0 c3 := hv3
        subst hv2 hv3
        have HG2 := Lib.hid (HGW.out.trans g2)
        clear hs2 ho3 g2
        go_wp2_with fail
        go_ret
        exact ⟨rfl, HG2.out⟩
      · have hps8 := prefix_size hp
        obtain ⟨L', X, hr, hm⟩ := mend (L := L) hp HD.out
        have hsm0 : ∀ f ∈ segL L p, f.size ≤ 1048576 := fun f hf => HSZ.out f (segL_mem hf)
        have H1 := Lib.hid (fun w1 (g : Gr w w1) => open_yes (.slice A n c) L p w1 (HV.out.gr g) hp HFit.out hsm0 (by rw [← HN.out]; exact hlen) (HH.out.gr g))
        have hfit' : Fit L' := by have := run_fit (ops := (openW L p).2) HFit.out; rw [hr] at this; exact this
        have hop : openW L' p = ((openW L p).1, []) := by rw [hm.log.opens hm.whole, hm.recs]
        have hsm : ∀ f ∈ segL L' p, f.size ≤ 1048576 := fun f hf => hm.size _ HSZ.out f (segL_mem hf)
        have hlen' : L'.length * 48 ≤ 140737488355328 := by have := hm.len; rw [← HN.out] at this; omega
        have hfo := fitO_open (L := L) (p := p) (by omega) hsm0
        obtain ⟨R, hR⟩ : ∃ R, R = (openW L p).1 := ⟨_, rfl⟩
        obtain ⟨P, hP⟩ : ∃ P, P = (openW L p).2 := ⟨_, rfl⟩
        rw [← hR] at hop H1
        rw [← hP] at hr H1 hfo
        have H2 := Lib.hid (fun vo w1 (g : Gr w w1) (ho : OV w1 vo P) => rdo_at (.slice A n c) vo L P w1 (HV.out.gr g) ho HFit.out hfo (by rw [← HN.out]; exact hlen) L' P.length 0 hr)
        have H3 := Lib.hid (fun u w1 (hu : FV w1 u L') (g : Gr w w1) => open_yes u L' p w1 hu hp hfit' hsm hlen' (HH.out.gr g))
        rw [hop] at H3
        clear hr hm hsm0 hfit' hop hsm hP hR hfo hp
        go_wp2_with fail
        refine (H1.out _ HGW.out).mono ?_
        rintro e w2 ⟨v1, v2, rfl, hs1, hown, g2⟩
        obtain ⟨A2, c2, hv2, -, -⟩ := hown.form
        obtain ⟨m, hm⟩ : ∃ m, m = P.length := ⟨_, rfl⟩
        rw [← hm] at hv2 H2
        subst hv2
        have HS1 := Lib.hid hs1.sv
        have HO2 := Lib.hid hown.ov
        have HG2 := Lib.hid (HGW.out.trans g2)
        have hbx2 := g2.cell HBX.out
        clear hown g2 hm hbx hs1
        go_wp2_with fail
        refine (H2.out _ _ HG2.out HO2.out).mono ?_
        rintro e w3 ⟨v3, rfl, hown3, g3⟩
        obtain ⟨A3, c3, hv3, -, -⟩ := hown3.form
        obtain ⟨m3, hm3⟩ : ∃ m, m = L'.length := ⟨_, rfl⟩
        rw [← hm3] at hv3
        subst hv3
        have HO3 := Lib.hid hown3.fv
        have HG3 := Lib.hid (HG2.out.trans g3)
        have HGB := Lib.hid (gr_box w3 (.cells #[.slice A3 m3 c3] 24))
        have HS3 := Lib.hid ((HS1.out.gr g3).gr HGB.out)
        clear hown3 g3 hm3 hbx2
        go_wp2_with fail
        refine (H3.out _ _ (HO3.out.gr HGB.out) (HG3.out.trans HGB.out)).mono ?_
        rintro e w4 ⟨v4, v5, rfl, hs4, ho5, g4⟩
        obtain ⟨A5, c5, hv5, -, -⟩ := ho5.form
        have hv5 : v5 = .slice A5 0 c5 := hv5
        subst hv5
        have HG4 := Lib.hid ((HG3.out.trans HGB.out).trans g4)
        have H5 := Lib.hid (lsame_any v1 v4 (R.map bs) w4 (HS3.out.gr g4) hs4.sv)
        have ht : ((m : Int) == (m : Int)) = true := by simp
        clear hs4 ho5 g4
        go_wp2_with fail
        refine H5.out.mono ?_
        rintro e w5 ⟨rfl, g5⟩
        have HG5 := Lib.hid (HG4.out.trans g5)
        clear g5
        go_wp2_with fail
        go_ret
        exact ⟨rfl, HG5.out⟩
end Go.Proofs.YtmkcgnljankmdaaDoor
