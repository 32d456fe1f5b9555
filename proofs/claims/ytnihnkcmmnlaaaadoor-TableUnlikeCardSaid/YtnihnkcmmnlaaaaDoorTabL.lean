/- The law TableUnlike. -/
import Derived.Test.YtnihnkcmmnlaaaaDoorTabK
import Derived.Deep.DeepCutAuto
namespace Go.Proofs.YtnihnkcmmnlaaaaDoor
open Go.RowKit

def URel (w : World) (i : Value) (wr : World) : Prop := ∃ j : Nat, i = .int .i64 ((j : Int) + 1) ∧ Gr w wr
set_option maxRecDepth 100000 in
set_option maxHeartbeats 4000000 in
theorem unlike6_law (v u : Value) (L M : List PR) (s : ByteArray) (w : World) (hv : PV w v L) (hu : PV w u M) (hlen : L.length * 32 ≤ 140737488355328) (hlen2 : M.length * 32 ≤ 140737488355328)
    (hmax : ∀ p ∈ L, p.key.size ≤ 281474976710656 ∧ p.val.size ≤ 281474976710656) (hmax2 : ∀ p ∈ M, p.key.size ≤ 281474976710656 ∧ p.val.size ≤ 281474976710656) (hs : s.size ≤ maxLen) (hH : Halves w) :
    Calls Tryd.prog 8 #[v, u, .string s] w fun e w' => e = .returned (.bool true) ∧ Gr w w' := by
  have HV := Lib.hid hv
  have HU := Lib.hid hu
  obtain ⟨A, c, rfl⟩ := pv_form hv
  obtain ⟨A', c', rfl⟩ := pv_form hu
  have H0 := Lib.hid (awake6_any w hH)
  have HAS := Lib.hid (fun (w1 : World) (g : Gr w w1) => all_any s hs w1 (hH.gr g))
  have HBL := Lib.hid (fun (v1 : Value) (w1 : World) (hv : PV w1 v1 L) (g : Gr w w1) => build_any v1 L w1 hv hmax (hH.gr g))
  have HBM := Lib.hid (fun (v1 : Value) (w1 : World) (hv : PV w1 v1 M) (g : Gr w w1) => build_any v1 M w1 hv hmax2 (hH.gr g))
  have HSM := Lib.hid (fun (w1 : World) (g : Gr w w1) => psame_any (.slice A L.length c) (.slice A' M.length c') L M w1 (hv.gr g) (hu.gr g))
  obtain ⟨n, hn⟩ : ∃ n, n = L.length := ⟨_, rfl⟩
  obtain ⟨m, hm⟩ : ∃ n, n = M.length := ⟨_, rfl⟩
  rw [← hn, ← hm] at HSM
  rw [← hn] at HV hlen ⊢
  rw [← hm] at HU hlen2 ⊢
  have HN := Lib.hid hn
  have HM := Lib.hid hm
  clear hv hu hs hmax hmax2 hH hn hm
  have HRS : Hid (∀ P, allR s.data.toList = some P → rises P) := Lib.hid (fun P h => allR_rises h)
  obtain ⟨ans, hans⟩ : ∃ x, x = allR s.data.toList := ⟨_, rfl⟩
  rw [← hans] at HAS HRS
  clear hans
  have hr6 : ∃ (Ta Tb : ByteArray) (ea eb : Nat), buildR L = (Ta, ea) ∧ buildR M = (Tb, eb) ∧ ((ea = 0 ∧ eb = 0 ∧ ∃ r, (Ta.toList == Tb.toList) = r ∧ psameB L M = r) ∨ (ea = 0 ∧ (eb = 1 ∨ eb = 2)) ∨ ea = 1 ∨ ea = 2) := by
    by_cases h1 : okTab L
    · by_cases h2 : okTab M
      · refine ⟨_, _, 0, 0, buildR_ok h1, buildR_ok h2, .inl ⟨rfl, rfl, ?_⟩⟩
        by_cases h3 : L = M
        · exact ⟨true, by rw [h3]; exact eqS_self _, psameB_yes h3⟩
        · exact ⟨false, eqS_ne (fun e => h3 (tab_inj h1 h2 (bs_eq.1 e))), psameB_no h3⟩
      · obtain ⟨er, hor, hb⟩ := bad_nat h2
        exact ⟨_, _, 0, er, buildR_ok h1, hb, .inr (.inl ⟨rfl, hor⟩)⟩
    · obtain ⟨er, hor, hb⟩ := bad_nat h1
      refine ⟨_, _, er, _, hb, rfl, .inr (.inr ?_)⟩
      exact hor
  obtain ⟨Ta, Tb, ea, eb, hba, hbb, hor⟩ := hr6
  rw [hba] at HBL
  rw [hbb] at HBM
  clear hba hbb
  have HOR := Lib.hid hor
  clear hor
  go_enter Tryd.func8, Tryd.ntmps8
  go_wp2_with fail
  refine H0.out.mono ?_
  rintro e w1 ⟨rfl, g1⟩
  have HV1 := Lib.hid (HV.out.gr g1)
  have HG1 := Lib.hid g1
  clear g1
  go_wp2_with (at_builtin; refine wpList_copy_pv rfl (.tmp 17) (.tmp 18) rfl rfl (.slice A n c) L n HN.out rfl HV1.out hlen ?_; intro A2 c2 w2 hp2 g2)
  have HP2 := Lib.hid hp2.pv
  have HG2 := Lib.hid (HG1.out.trans g2)
  clear hp2 g2
  go_wp2_with fail
  refine (HBL.out _ _ HP2.out HG2.out).mono ?_
  rintro e w3 ⟨rfl, g3⟩
  have HG3 := Lib.hid (HG2.out.trans g3)
  have HU3 := Lib.hid (HU.out.gr HG3.out)
  clear g3
  go_wp2_with (at_builtin; refine wpList_copy_pv rfl (.tmp 24) (.tmp 25) rfl rfl (.slice A' m c') M m HM.out rfl HU3.out hlen2 ?_; intro A4 c4 w4 hp4 g4)
  have HP4 := Lib.hid hp4.pv
  have HG4 := Lib.hid (HG3.out.trans g4)
  clear hp4 g4
  go_wp2_with fail
  refine (HBM.out _ _ HP4.out HG4.out).mono ?_
  rintro e w5 ⟨rfl, g5⟩
  have HG5 := Lib.hid (HG4.out.trans g5)
  clear g5
  go_upto_region 5 with (fail)
  go_cut [44] (fun s44 wx => s44 = .bool false ∧ Gr w wx)
  case first =>
    rcases HOR.out with ⟨rfl, rfl, r, hr1, hr2⟩ | ⟨rfl, rfl | rfl⟩ | rfl | rfl
    · rw [hr2] at HSM
      rcases r with _ | _
      all_goals
        clear hr2
        go_wp2_with fail
        refine (HSM.out _ HG5.out).mono ?_
        rintro e w6 ⟨rfl, g6⟩
        have HG6 := Lib.hid (HG5.out.trans g6)
        clear g6
        go_wp2_with fail
        go_meet
        exact ⟨rfl, HG6.out⟩
    all_goals
      go_wp2_with fail
      go_meet
      exact ⟨rfl, HG5.out⟩
  case rest =>
    obtain ⟨rfl, hg6⟩ := hcut
    have HG6 := Lib.hid hg6
    clear hg6 HSM HBL HBM HOR
    go_wp2_with fail
    refine (HAS.out _ HG6.out).mono ?_
    rcases ans with _ | P
    · rintro e w7 ⟨rfl, g7⟩
      have HG7 := Lib.hid (HG6.out.trans g7)
      clear g7
      go_wp2_with fail
      go_loopw [13] (fun i wr => URel w i wr) (fun i _ => 0)
      case atStart => exact ⟨0, rfl, HG7.out⟩
      case round =>
        obtain ⟨j, rfl, hgr⟩ := hrel
        have HGR := Lib.hid hgr
        have t1 : ¬ (j : Int) + 1 < 0 := by omega
        clear hgr
        go_wp2_with fail
        go_ret
        exact ⟨rfl, HGR.out⟩
    · rintro e w7 ⟨v7, rfl, hp7, -, g7⟩
      have HG7 := Lib.hid (HG6.out.trans g7)
      have HP7 := Lib.hid hp7
      have hri := HRS.out P rfl
      obtain ⟨A7, c7, rfl, l1, ⟨l2, _⟩, l3⟩ := hp7
      have hc63 : c7 ≤ 9223372036854775807 := l2
      have HL := Lib.hid (fun (wr : World) (g : Gr w7 wr) => HP7.out.gr g)
      obtain ⟨q, hq⟩ : ∃ q, q = P.length := ⟨_, rfl⟩
      rw [← hq] at l1 ⊢
      have HQ := Lib.hid hq
      have HCE := Lib.hid l3
      have HRI := Lib.hid hri
      have hqq : q ≤ 9223372036854775807 := by omega
      clear g7 l2 l3 hq hri HL
      go_wp2_with fail
      go_loopw [13] (fun i wr => URel w7 i wr) (fun i _ => q - (intOf i).toNat)
      case atStart => exact ⟨0, rfl, Gr.refl _⟩
      case round =>
        obtain ⟨j, rfl, hgr⟩ := hrel
        have HGR := Lib.hid hgr
        by_cases hlt : j + 1 < q
        · have h1 : j + 1 < P.length := by rw [← HQ.out]; exact hlt
          obtain ⟨b, off, rfl, q0, -⟩ := HCE.out j (by omega)
          obtain ⟨b', off', hbk, r0, -⟩ := HCE.out (j + 1) h1
          injection hbk with hbk
          injection hbk with e1 e2
          subst e1 e2
          have c0 := hgr.cell q0
          have c1' := hgr.cell r0
          have hls := HRI.out j h1
          obtain ⟨x, hx⟩ : ∃ x, x = P[j].key := ⟨_, rfl⟩
          obtain ⟨y, hy⟩ : ∃ y, y = P[j + 1].key := ⟨_, rfl⟩
          rw [← hx] at c0 hls
          rw [← hy] at c1' hls
          have ht : Go.Op.bytesLess y.toList x.toList = false := lessS_asymm hls
          have ht2 : (y.toList == x.toList) = false := eqS_ne (lessS_ne hls).symm
          have hjj : j + 1 ≤ 9223372036854775807 := by omega
          clear q0 r0 hgr hx hy hls
          go_wp2_with fail
          go_quiet (fail)
          go_wp2
          go_roundw
          case rel => exact ⟨j + 1, by go_num, HGR.out.drewN _⟩
          case measure => simp [intOf]; omega
        · have t1 : ¬ (j : Int) + 1 < (q : Int) := by omega
          have HG8 := Lib.hid (HG7.out.trans hgr)
          clear hgr
          go_wp2_with fail
          go_ret
          exact ⟨rfl, HG8.out⟩
end Go.Proofs.YtnihnkcmmnlaaaaDoor
