/- The law TableBack. -/
import Derived.Test.YtnihnkcmmnlaaaaDoorTabJ
namespace Go.Proofs.YtnihnkcmmnlaaaaDoor
open Go.RowKit

theorem bad_nat {L : List PR} (h : ¬ okTab L) : ∃ er : Nat, (er = 1 ∨ er = 2) ∧ buildR L = (⟨#[]⟩, er) := ⟨_, (buildR_bad h).2, by
  have := (buildR_bad h).1
  exact Prod.ext this rfl⟩
theorem tab_size {L : List PR} (h : okTab L) : (bs (tabL L)).size ≤ 1048576 := by rw [bs_size]; exact h.2.2.2.2

set_option maxRecDepth 100000 in
set_option maxHeartbeats 2000000 in
theorem back6_law (v : Value) (L : List PR) (s : ByteArray) (w : World) (hv : PV w v L) (hlen : L.length * 32 ≤ 140737488355328) (hmax : ∀ p ∈ L, p.key.size ≤ 281474976710656 ∧ p.val.size ≤ 281474976710656) (hs : s.size ≤ maxLen) (hH : Halves w) :
    Calls Tryd.prog 5 #[v, .string s] w fun e w' => e = .returned (.bool true) ∧ Gr w w' := by
  have HV := Lib.hid hv
  obtain ⟨A, c, rfl⟩ := pv_form hv
  have H0 := Lib.hid (awake6_any w hH)
  have HH := Lib.hid hH
  have HAS := Lib.hid (fun (w1 : World) (g : Gr w w1) => all_any s hs w1 (hH.gr g))
  have HBL := Lib.hid (fun (v1 : Value) (w1 : World) (hv : PV w1 v1 L) (g : Gr w w1) => build_any v1 L w1 hv hmax (hH.gr g))
  have HSM := Lib.hid (fun (v1 : Value) (w1 : World) (hv1 : PV w1 v1 L) (g : Gr w w1) => by
    have := psame_any v1 (.slice A L.length c) L L w1 hv1 (hv.gr g)
    rw [psameB_yes rfl] at this
    exact this)
  obtain ⟨n, hn⟩ : ∃ n, n = L.length := ⟨_, rfl⟩
  rw [← hn] at HV HSM hlen ⊢
  have HN := Lib.hid hn
  clear hv hs hmax hH hn
  have hmb : ∀ (M : List PR), okTab M → ∀ (T : ByteArray), T = bs (tabL M) → Hid (∀ (w1 : World), Gr w w1 → Calls Tryd.prog 13 #[.string T] w1 fun e w' => RetAll (some M) w1 e w') := fun M hM T hT => Lib.hid (fun w1 g => by
    subst hT
    have := all_any (bs (tabL M)) (Nat.le_trans (tab_size hM) (by unfold maxLen; omega)) w1 (HH.out.gr g)
    rw [show (bs (tabL M)).data.toList = tabL M from rfl, allR_tab hM] at this
    exact this)
  have HM := Lib.hid hmb
  clear hmb
  rcases ha : allR s.data.toList with _ | M
  · rw [ha] at HAS
    clear ha
    by_cases hok : okTab L
    · rw [buildR_ok hok] at HBL
      have H2 := HM.out L hok _ rfl
      obtain ⟨T, hT⟩ : ∃ T, T = bs (tabL L) := ⟨_, rfl⟩
      rw [← hT] at HBL H2
      clear hok hT
      go_enter Tryd.func5, Tryd.ntmps5
      go_wp2_with fail
      refine H0.out.mono ?_
      rintro e w1 ⟨rfl, g1⟩
      have HV1 := Lib.hid (HV.out.gr g1)
      have HG1 := Lib.hid g1
      clear g1
      go_wp2_with (at_builtin; refine wpList_copy_pv rfl (.tmp 15) (.tmp 16) rfl rfl (.slice A n c) L n HN.out rfl HV1.out hlen ?_; intro A2 c2 w2 hp2 g2)
      have HP2 := Lib.hid hp2.pv
      have HG2 := Lib.hid (HG1.out.trans g2)
      clear hp2 g2
      go_wp2_with fail
      refine (HBL.out _ _ HP2.out HG2.out).mono ?_
      rintro e w3 ⟨rfl, g3⟩
      have HG3 := Lib.hid (HG2.out.trans g3)
      clear g3
      go_wp2_with fail
      refine (H2.out _ HG3.out).mono ?_
      rintro e w4 ⟨v4, rfl, hp4, -, g4⟩
      have HP4 := Lib.hid hp4
      have HG4 := Lib.hid (HG3.out.trans g4)
      clear hp4 g4
      go_wp2_with fail
      refine (HSM.out _ _ HP4.out HG4.out).mono ?_
      rintro e w5 ⟨rfl, g5⟩
      have HG5 := Lib.hid (HG4.out.trans g5)
      clear g5
      go_wp2_with fail
      refine (HAS.out _ HG5.out).mono ?_
      rintro e w6 ⟨rfl, g6⟩
      have HG6 := Lib.hid (HG5.out.trans g6)
      clear g6
      go_wp2_with fail
      go_ret
      exact ⟨rfl, HG6.out⟩
    · obtain ⟨er, hor, hb⟩ := bad_nat hok
      rw [hb] at HBL
      clear hok hb
      rcases hor with rfl | rfl
      all_goals
        go_enter Tryd.func5, Tryd.ntmps5
        go_wp2_with fail
        refine H0.out.mono ?_
        rintro e w1 ⟨rfl, g1⟩
        have HV1 := Lib.hid (HV.out.gr g1)
        have HG1 := Lib.hid g1
        clear g1
        go_wp2_with (at_builtin; refine wpList_copy_pv rfl (.tmp 15) (.tmp 16) rfl rfl (.slice A n c) L n HN.out rfl HV1.out hlen ?_; intro A2 c2 w2 hp2 g2)
        have HP2 := Lib.hid hp2.pv
        have HG2 := Lib.hid (HG1.out.trans g2)
        clear hp2 g2
        go_wp2_with fail
        refine (HBL.out _ _ HP2.out HG2.out).mono ?_
        rintro e w3 ⟨rfl, g3⟩
        have HG5 := Lib.hid (HG2.out.trans g3)
        clear g3
        go_wp2_with fail
        refine (HAS.out _ HG5.out).mono ?_
        rintro e w6 ⟨rfl, g6⟩
        have HG6 := Lib.hid (HG5.out.trans g6)
        clear g6
        go_wp2_with fail
        go_ret
        exact ⟨rfl, HG6.out⟩
  · rw [ha] at HAS
    obtain ⟨hokM, hts⟩ := allR_back ha
    have HBM := Lib.hid (fun (v1 : Value) (w1 : World) (hv : PV w1 v1 M) (hm : ∀ p ∈ M, p.key.size ≤ 65536 ∧ p.val.size ≤ 65536) (g : Gr w w1) => by
      have := build_any v1 M w1 hv (small_big hm) (HH.out.gr g)
      rw [buildR_ok hokM, bs_eq.2 hts] at this
      exact this)
    have heq : (s.toList == s.toList) = true := eqS_self s
    have HEQ := Lib.hid heq
    clear ha hokM hts heq
    by_cases hok : okTab L
    · rw [buildR_ok hok] at HBL
      have H2 := HM.out L hok _ rfl
      obtain ⟨T, hT⟩ : ∃ T, T = bs (tabL L) := ⟨_, rfl⟩
      rw [← hT] at HBL H2
      clear hok hT
      go_enter Tryd.func5, Tryd.ntmps5
      go_wp2_with fail
      refine H0.out.mono ?_
      rintro e w1 ⟨rfl, g1⟩
      have HV1 := Lib.hid (HV.out.gr g1)
      have HG1 := Lib.hid g1
      clear g1
      go_wp2_with (at_builtin; refine wpList_copy_pv rfl (.tmp 15) (.tmp 16) rfl rfl (.slice A n c) L n HN.out rfl HV1.out hlen ?_; intro A2 c2 w2 hp2 g2)
      have HP2 := Lib.hid hp2.pv
      have HG2 := Lib.hid (HG1.out.trans g2)
      clear hp2 g2
      go_wp2_with fail
      refine (HBL.out _ _ HP2.out HG2.out).mono ?_
      rintro e w3 ⟨rfl, g3⟩
      have HG3 := Lib.hid (HG2.out.trans g3)
      clear g3
      go_wp2_with fail
      refine (H2.out _ HG3.out).mono ?_
      rintro e w4 ⟨v4, rfl, hp4, -, g4⟩
      have HP4 := Lib.hid hp4
      have HG4 := Lib.hid (HG3.out.trans g4)
      clear hp4 g4
      go_wp2_with fail
      refine (HSM.out _ _ HP4.out HG4.out).mono ?_
      rintro e w5 ⟨rfl, g5⟩
      have HG5 := Lib.hid (HG4.out.trans g5)
      clear g5
      go_wp2_with fail
      refine (HAS.out _ HG5.out).mono ?_
      rintro e w6 ⟨v6, rfl, hp6, hsm6, g6⟩
      have HP6 := Lib.hid hp6
      have HS6 := Lib.hid hsm6
      have HG6 := Lib.hid (HG5.out.trans g6)
      clear hp6 hsm6 g6
      go_wp2_with fail
      refine (HBM.out _ _ HP6.out HS6.out HG6.out).mono ?_
      rintro e w7 ⟨rfl, g7⟩
      have HG7 := Lib.hid (HG6.out.trans g7)
      have heq := HEQ.out
      clear g7
      go_wp2_with fail
      go_ret
      exact ⟨rfl, HG7.out⟩
    · obtain ⟨er, hor, hb⟩ := bad_nat hok
      rw [hb] at HBL
      clear hok hb
      rcases hor with rfl | rfl
      all_goals
        go_enter Tryd.func5, Tryd.ntmps5
        go_wp2_with fail
        refine H0.out.mono ?_
        rintro e w1 ⟨rfl, g1⟩
        have HV1 := Lib.hid (HV.out.gr g1)
        have HG1 := Lib.hid g1
        clear g1
        go_wp2_with (at_builtin; refine wpList_copy_pv rfl (.tmp 15) (.tmp 16) rfl rfl (.slice A n c) L n HN.out rfl HV1.out hlen ?_; intro A2 c2 w2 hp2 g2)
        have HP2 := Lib.hid hp2.pv
        have HG2 := Lib.hid (HG1.out.trans g2)
        clear hp2 g2
        go_wp2_with fail
        refine (HBL.out _ _ HP2.out HG2.out).mono ?_
        rintro e w3 ⟨rfl, g3⟩
        have HG5 := Lib.hid (HG2.out.trans g3)
        clear g3
        go_wp2_with fail
        refine (HAS.out _ HG5.out).mono ?_
        rintro e w6 ⟨v6, rfl, hp6, hsm6, g6⟩
        have HP6 := Lib.hid hp6
        have HS6 := Lib.hid hsm6
        have HG6 := Lib.hid (HG5.out.trans g6)
        clear hp6 hsm6 g6
        go_wp2_with fail
        refine (HBM.out _ _ HP6.out HS6.out HG6.out).mono ?_
        rintro e w7 ⟨rfl, g7⟩
        have HG7 := Lib.hid (HG6.out.trans g7)
        have heq := HEQ.out
        clear g7
        go_wp2_with fail
        go_ret
        exact ⟨rfl, HG7.out⟩
end Go.Proofs.YtnihnkcmmnlaaaaDoor
