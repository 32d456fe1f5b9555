/- Walks over package rule: named. -/
import Derived.Test.YtioldhhnkeakcaaDoorRuG
namespace Go.Proofs.YtioldhhnkeakcaaDoor
open Go.RowKit Go.Joins
set_option linter.unusedSimpArgs false
set_option linter.unusedVariables false

set_option maxRecDepth 100000 in
set_option maxHeartbeats 4000000 in
theorem named_any (r : RU) (w : World) (hp : Laid w) :
    Calls Tryd.prog 51 #[.agg (ruv r)] w fun e w' => e = .returned (.bool (namedB r)) ∧ Gr w w' := by
  obtain ⟨W, hW, hg, hr⟩ := rubox w r
  have HG := Lib.hid hg
  have HR := Lib.hid hr
  have HN := Lib.hid (namesOf_any r.k W (hp.gr hg))
  have hn4 := names_le r.k
  obtain ⟨N, hN⟩ : ∃ N, N = names r.k := ⟨_, rfl⟩
  have HZ : Hid (namedB r = (!N.isEmpty && (r.other.toList.isEmpty || hasW N sOTHER) && (decide (r.min = 0) || hasW N sMIN) && (decide (r.start = 0) || hasW N sSTART))) := Lib.hid (by rw [hN]; rfl)
  rw [← hN] at HN hn4
  obtain ⟨k, key, other, mn, st⟩ := r
  simp only [] at HZ HN
  clear hN hp hg
  go_enter Tryd.func51, Tryd.ntmps51
  go_upto_region 1 with (fail)
  rw [← hW]
  clear hW
  obtain ⟨r0, r1, r2, r3, r4⟩ := hr
  simp only [Nat.zero_add] at r0 r1 r2 r3 r4
  go_wp2_with fail
  refine HN.out.mono ?_
  rintro e w1 ⟨v, rfl, hv, g⟩
  have HG1 := Lib.hid (HG.out.trans g)
  have HV1 := Lib.hid hv
  have HC1 := Lib.hid (HR.out.gr g)
  clear r0 r1 r2 r3 r4 g
  obtain ⟨r0, r1, r2, r3, r4⟩ := HC1.out
  simp only [Nat.zero_add] at r0 r1 r2 r3 r4
  obtain ⟨A, c, rfl, l1, l2, l3⟩ := hv
  clear l3 l2 HR HN HG
  cases hl : N with
  | nil =>
    subst hl
    go_wp2_with fail
    go_ret
    exact ⟨by rw [HZ.out]; rfl, HG1.out⟩
  | cons a M =>
    have hpos : 0 < N.length := by rw [hl]; simp
    obtain ⟨n, hn⟩ : ∃ n, n = N.length := ⟨_, rfl⟩
    rw [← hl]
    have HCO := Lib.hid (fun w hv => scontains_any (.slice A N.length c) N ⟨#[79, 84, 72, 69, 82]⟩ w hv)
    have HCM := Lib.hid (fun w hv => scontains_any (.slice A N.length c) N ⟨#[77, 73, 78]⟩ w hv)
    have HCS := Lib.hid (fun w hv => scontains_any (.slice A N.length c) N ⟨#[83, 84, 65, 82, 84]⟩ w hv)
    have HE : N.isEmpty = false := by rw [hl]; rfl
    rw [HE] at HZ
    unfold sOTHER sMIN sSTART at HZ
    obtain ⟨ho, hho⟩ : ∃ h, h = hasW N ⟨#[79, 84, 72, 69, 82]⟩ := ⟨_, rfl⟩
    obtain ⟨hm, hhm⟩ : ∃ h, h = hasW N ⟨#[77, 73, 78]⟩ := ⟨_, rfl⟩
    obtain ⟨hs, hhs⟩ : ∃ h, h = hasW N ⟨#[83, 84, 65, 82, 84]⟩ := ⟨_, rfl⟩
    rw [← hho] at HCO HZ
    rw [← hhm] at HCM HZ
    rw [← hhs] at HCS HZ
    rw [← hn] at HCO HCM HCS HV1 hpos hn4 ⊢
    have t0 : (0 : Int) < (n : Int) := by omega
    clear hho hhm hhs HE l1 hl hn
    rcases he : other.toList.isEmpty with _ | _
    · rw [he] at HZ
      by_cases hmn : mn = 0
      · subst hmn
        by_cases hst : st = 0
        · subst hst
          go_wp2_with fail
          refine (HCO.out _ HV1.out).mono ?_
          rintro e w2 ⟨rfl, g⟩
          have HG2 := Lib.hid (HG1.out.trans g)
          have HV2 := Lib.hid (HV1.out.gr g)
          have HC2 := Lib.hid (HC1.out.gr g)
          clear r0 r1 r2 r3 r4 g
          obtain ⟨r0, r1, r2, r3, r4⟩ := HC2.out
          rcases ho with _ | _
          · go_wp2_with fail
            go_ret
            exact ⟨by rw [HZ.out]; rfl, HG2.out⟩
          · go_wp2_with fail
            go_ret
            exact ⟨by rw [HZ.out]; rfl, HG2.out⟩
        · rw [decide_eq_false hst] at HZ
          have hstb : (st == 0) = false := by simpa using hst
          go_wp2_with fail
          refine (HCO.out _ HV1.out).mono ?_
          rintro e w2 ⟨rfl, g⟩
          have HG2 := Lib.hid (HG1.out.trans g)
          have HV2 := Lib.hid (HV1.out.gr g)
          have HC2 := Lib.hid (HC1.out.gr g)
          clear r0 r1 r2 r3 r4 g
          obtain ⟨r0, r1, r2, r3, r4⟩ := HC2.out
          rcases ho with _ | _
          · go_wp2_with fail
            go_ret
            exact ⟨by rw [HZ.out]; rfl, HG2.out⟩
          · go_wp2_with fail
            refine (HCS.out _ HV2.out).mono ?_
            rintro e w3 ⟨rfl, g⟩
            have HG3 := Lib.hid (HG2.out.trans g)
            have HV3 := Lib.hid (HV2.out.gr g)
            have HC3 := Lib.hid (HC2.out.gr g)
            clear r0 r1 r2 r3 r4 g
            obtain ⟨r0, r1, r2, r3, r4⟩ := HC3.out
            rcases hs with _ | _
            · go_wp2_with fail
              go_ret
              exact ⟨by rw [HZ.out]; rfl, HG3.out⟩
            · go_wp2_with fail
              go_ret
              exact ⟨by rw [HZ.out]; rfl, HG3.out⟩
      · rw [decide_eq_false hmn] at HZ
        have hmnb : (mn == 0) = false := by simpa using hmn
        by_cases hst : st = 0
        · subst hst
          go_wp2_with fail
          refine (HCO.out _ HV1.out).mono ?_
          rintro e w2 ⟨rfl, g⟩
          have HG2 := Lib.hid (HG1.out.trans g)
          have HV2 := Lib.hid (HV1.out.gr g)
          have HC2 := Lib.hid (HC1.out.gr g)
          clear r0 r1 r2 r3 r4 g
          obtain ⟨r0, r1, r2, r3, r4⟩ := HC2.out
          rcases ho with _ | _
          · go_wp2_with fail
            go_ret
            exact ⟨by rw [HZ.out]; rfl, HG2.out⟩
          · go_wp2_with fail
            refine (HCM.out _ HV2.out).mono ?_
            rintro e w3 ⟨rfl, g⟩
            have HG3 := Lib.hid (HG2.out.trans g)
            have HV3 := Lib.hid (HV2.out.gr g)
            have HC3 := Lib.hid (HC2.out.gr g)
            clear r0 r1 r2 r3 r4 g
            obtain ⟨r0, r1, r2, r3, r4⟩ := HC3.out
            rcases hm with _ | _
            · go_wp2_with fail
              go_ret
              exact ⟨by rw [HZ.out]; rfl, HG3.out⟩
            · go_wp2_with fail
              go_ret
              exact ⟨by rw [HZ.out]; rfl, HG3.out⟩
        · rw [decide_eq_false hst] at HZ
          have hstb : (st == 0) = false := by simpa using hst
          go_wp2_with fail
          refine (HCO.out _ HV1.out).mono ?_
          rintro e w2 ⟨rfl, g⟩
          have HG2 := Lib.hid (HG1.out.trans g)
          have HV2 := Lib.hid (HV1.out.gr g)
          have HC2 := Lib.hid (HC1.out.gr g)
          clear r0 r1 r2 r3 r4 g
          obtain ⟨r0, r1, r2, r3, r4⟩ := HC2.out
          rcases ho with _ | _
          · go_wp2_with fail
            go_ret
            exact ⟨by rw [HZ.out]; rfl, HG2.out⟩
          · go_wp2_with fail
            refine (HCM.out _ HV2.out).mono ?_
            rintro e w3 ⟨rfl, g⟩
            have HG3 := Lib.hid (HG2.out.trans g)
            have HV3 := Lib.hid (HV2.out.gr g)
            have HC3 := Lib.hid (HC2.out.gr g)
            clear r0 r1 r2 r3 r4 g
            obtain ⟨r0, r1, r2, r3, r4⟩ := HC3.out
            rcases hm with _ | _
            · go_wp2_with fail
              go_ret
              exact ⟨by rw [HZ.out]; rfl, HG3.out⟩
            · go_wp2_with fail
              refine (HCS.out _ HV3.out).mono ?_
              rintro e w4 ⟨rfl, g⟩
              have HG4 := Lib.hid (HG3.out.trans g)
              have HV4 := Lib.hid (HV3.out.gr g)
              have HC4 := Lib.hid (HC3.out.gr g)
              clear r0 r1 r2 r3 r4 g
              obtain ⟨r0, r1, r2, r3, r4⟩ := HC4.out
              rcases hs with _ | _
              · go_wp2_with fail
                go_ret
                exact ⟨by rw [HZ.out]; rfl, HG4.out⟩
              · go_wp2_with fail
                go_ret
                exact ⟨by rw [HZ.out]; rfl, HG4.out⟩
    · rw [he] at HZ
      have he2 : other.toList = [] := List.isEmpty_iff.1 he
      by_cases hmn : mn = 0
      · subst hmn
        by_cases hst : st = 0
        · subst hst
          go_wp2_with fail
          go_ret
          exact ⟨by rw [HZ.out]; rfl, HG1.out⟩
        · rw [decide_eq_false hst] at HZ
          have hstb : (st == 0) = false := by simpa using hst
          go_wp2_with fail
          refine (HCS.out _ HV1.out).mono ?_
          rintro e w2 ⟨rfl, g⟩
          have HG2 := Lib.hid (HG1.out.trans g)
          have HV2 := Lib.hid (HV1.out.gr g)
          have HC2 := Lib.hid (HC1.out.gr g)
          clear r0 r1 r2 r3 r4 g
          obtain ⟨r0, r1, r2, r3, r4⟩ := HC2.out
          rcases hs with _ | _
          · go_wp2_with fail
            go_ret
            exact ⟨by rw [HZ.out]; rfl, HG2.out⟩
          · go_wp2_with fail
            go_ret
            exact ⟨by rw [HZ.out]; rfl, HG2.out⟩
      · rw [decide_eq_false hmn] at HZ
        have hmnb : (mn == 0) = false := by simpa using hmn
        by_cases hst : st = 0
        · subst hst
          go_wp2_with fail
          refine (HCM.out _ HV1.out).mono ?_
          rintro e w2 ⟨rfl, g⟩
          have HG2 := Lib.hid (HG1.out.trans g)
          have HV2 := Lib.hid (HV1.out.gr g)
          have HC2 := Lib.hid (HC1.out.gr g)
          clear r0 r1 r2 r3 r4 g
          obtain ⟨r0, r1, r2, r3, r4⟩ := HC2.out
          rcases hm with _ | _
          · go_wp2_with fail
            go_ret
            exact ⟨by rw [HZ.out]; rfl, HG2.out⟩
          · go_wp2_with fail
            go_ret
            exact ⟨by rw [HZ.out]; rfl, HG2.out⟩
        · rw [decide_eq_false hst] at HZ
          have hstb : (st == 0) = false := by simpa using hst
          go_wp2_with fail
          refine (HCM.out _ HV1.out).mono ?_
          rintro e w2 ⟨rfl, g⟩
          have HG2 := Lib.hid (HG1.out.trans g)
          have HV2 := Lib.hid (HV1.out.gr g)
          have HC2 := Lib.hid (HC1.out.gr g)
          clear r0 r1 r2 r3 r4 g
          obtain ⟨r0, r1, r2, r3, r4⟩ := HC2.out
          rcases hm with _ | _
          · go_wp2_with fail
            go_ret
            exact ⟨by rw [HZ.out]; rfl, HG2.out⟩
          · go_wp2_with fail
            refine (HCS.out _ HV2.out).mono ?_
            rintro e w3 ⟨rfl, g⟩
            have HG3 := Lib.hid (HG2.out.trans g)
            have HV3 := Lib.hid (HV2.out.gr g)
            have HC3 := Lib.hid (HC2.out.gr g)
            clear r0 r1 r2 r3 r4 g
            obtain ⟨r0, r1, r2, r3, r4⟩ := HC3.out
            rcases hs with _ | _
            · go_wp2_with fail
              go_ret
              exact ⟨by rw [HZ.out]; rfl, HG3.out⟩
            · go_wp2_with fail
              go_ret
              exact ⟨by rw [HZ.out]; rfl, HG3.out⟩
end Go.Proofs.YtioldhhnkeakcaaDoor
