/- Walks over package rule: named. Walks over package rule: joins, begins, mayBe, Check. -/
import Derived.Test.YtnjmgknicffcbaaGreatDoorZb11
namespace Go.Proofs.YtnjmgknicffcbaaGreatDoor
open Go.RowKit Go.Joins
set_option linter.unusedSimpArgs false
set_option linter.unusedVariables false

set_option maxRecDepth 100000 in
set_option maxHeartbeats 4000000 in
theorem named_any (r : RU) (w : World) (hp : Laid w) :
    Calls Tryz.prog 134 #[.agg (ruv r)] w fun e w' => e = .returned (.bool (namedB r)) ∧ Gr w w' := by
  obtain ⟨W, hW, hg, hr⟩ := rubox w r
  have HG := Lib.hid hg
  have HR := Lib.hid hr
  have HN := Lib.hid (namesOf_any r.k W (hp.gr hg))
  have hn4 := names_le r.k
  obtain ⟨N, hN⟩ : ∃ N, N = names r.k := ⟨_, rfl⟩
  have HZ : Hid (namedB r = (!N.isEmpty && (r.other.toList.isEmpty || hasW N sOTHER) && (decide (r.min = 0) || hasW N sMIN) && (decide (r.start = 0) || hasW N sSTART))) := Lib.hid (by rw [hN]; rfl)
  rw [← hN] at HN hn4
  obtain ⟨k, key, other, mn, st⟩ := r
  simp only [] at HZ HN
  clear hN hp hg
  go_enter Tryz.func134, Tryz.ntmps134
  go_upto_region 1 with (fail)
  rw [← hW]
  clear hW
  obtain ⟨r0, r1, r2, r3, r4⟩ := hr
  simp only [Nat.zero_add] at r0 r1 r2 r3 r4
  go_wp2_with fail
  refine HN.out.mono ?_
  rintro e w1 ⟨v, rfl, hv, g⟩
  have HG1 := Lib.hid (HG.out.trans g)
  have HV1 := Lib.hid hv
  have HC1 := Lib.hid (HR.out.gr g)
  clear r0 r1 r2 r3 r4 g
  obtain ⟨r0, r1, r2, r3, r4⟩ := HC1.out
  simp only [Nat.zero_add] at r0 r1 r2 r3 r4
  obtain ⟨A, c, rfl, l1, l2, l3⟩ := hv
  clear l3 l2 HR HN HG
  cases hl : N with
  | nil =>
    subst hl
    go_wp2_with fail
    go_ret
    exact ⟨by rw [HZ.out]; rfl, HG1.out⟩
  | cons a M =>
    have hpos : 0 < N.length := by rw [hl]; simp
    obtain ⟨n, hn⟩ : ∃ n, n = N.length := ⟨_, rfl⟩
    rw [← hl]
    have HCO := Lib.hid (fun w hv => scontains_any (.slice A N.length c) N ⟨#[79, 84, 72, 69, 82]⟩ w hv)
    have HCM := Lib.hid (fun w hv => scontains_any (.slice A N.length c) N ⟨#[77, 73, 78]⟩ w hv)
    have HCS := Lib.hid (fun w hv => scontains_any (.slice A N.length c) N ⟨#[83, 84, 65, 82, 84]⟩ w hv)
    have HE : N.isEmpty = false := by rw [hl]; rfl
    rw [HE] at HZ
    unfold sOTHER sMIN sSTART at HZ
    obtain ⟨ho, hho⟩ : ∃ h, h = hasW N ⟨#[79, 84, 72, 69, 82]⟩ := ⟨_, rfl⟩
    obtain ⟨hm, hhm⟩ : ∃ h, h = hasW N ⟨#[77, 73, 78]⟩ := ⟨_, rfl⟩
    obtain ⟨hs, hhs⟩ : ∃ h, h = hasW N ⟨#[83, 84, 65, 82, 84]⟩ := ⟨_, rfl⟩
    rw [← hho] at HCO HZ
    rw [← hhm] at HCM HZ
    rw [← hhs] at HCS HZ
    rw [← hn] at HCO HCM HCS HV1 hpos hn4 ⊢
    have t0 : (0 : Int) < (n : Int) := by omega
    clear hho hhm hhs HE l1 hl hn
    rcases he : other.toList.isEmpty with _ | _
    · rw [he] at HZ
      by_cases hmn : mn = 0
      · subst hmn
        by_cases hst : st = 0
        · subst hst
          go_wp2_with fail
          refine (HCO.out _ HV1.out).mono ?_
          rintro e w2 ⟨rfl, g⟩
          have HG2 := Lib.hid (HG1.out.trans g)
          have HV2 := Lib.hid (HV1.out.gr g)
          have HC2 := Lib.hid (HC1.out.gr g)
          clear r0 r1 r2 r3 r4 g
          obtain ⟨r0, r1, r2, r3, r4⟩ := HC2.out
          rcases ho with _ | _
          · go_wp2_with fail
            go_ret
            exact ⟨by rw [HZ.out]; rfl, HG2.out⟩
          · go_wp2_with fail
            go_ret
            exact ⟨by rw [HZ.out]; rfl, HG2.out⟩
        · rw [decide_eq_false hst] at HZ
          have hstb : (st == 0) = false := by simpa using hst
          go_wp2_with fail
          refine (HCO.out _ HV1.out).mono ?_
          rintro e w2 ⟨rfl, g⟩
          have HG2 := Lib.hid (HG1.out.trans g)
          have HV2 := Lib.hid (HV1.out.gr g)
          have HC2 := Lib.hid (HC1.out.gr g)
          clear r0 r1 r2 r3 r4 g
          obtain ⟨r0, r1, r2, r3, r4⟩ := HC2.out
          rcases ho with _ | _
          · go_wp2_with fail
            go_ret
            exact ⟨by rw [HZ.out]; rfl, HG2.out⟩
          · go_wp2_with fail
            refine (HCS.out _ HV2.out).mono ?_
            rintro e w3 ⟨rfl, g⟩
            have HG3 := Lib.hid (HG2.out.trans g)
            have HV3 := Lib.hid (HV2.out.gr g)
            have HC3 := Lib.hid (HC2.out.gr g)
            clear r0 r1 r2 r3 r4 g
            obtain ⟨r0, r1, r2, r3, r4⟩ := HC3.out
            rcases hs with _ | _
            · go_wp2_with fail
              go_ret
              exact ⟨by rw [HZ.out]; rfl, HG3.out⟩
            · go_wp2_with fail
              go_ret
              exact ⟨by rw [HZ.out]; rfl, HG3.out⟩
      · rw [decide_eq_false hmn] at HZ
        have hmnb : (mn == 0) = false := by simpa using hmn
        by_cases hst : st = 0
        · subst hst
          go_wp2_with fail
          refine (HCO.out _ HV1.out).mono ?_
          rintro e w2 ⟨rfl, g⟩
          have HG2 := Lib.hid (HG1.out.trans g)
          have HV2 := Lib.hid (HV1.out.gr g)
          have HC2 := Lib.hid (HC1.out.gr g)
          clear r0 r1 r2 r3 r4 g
          obtain ⟨r0, r1, r2, r3, r4⟩ := HC2.out
          rcases ho with _ | _
          · go_wp2_with fail
            go_ret
            exact ⟨by rw [HZ.out]; rfl, HG2.out⟩
          · go_wp2_with fail
            refine (HCM.out _ HV2.out).mono ?_
            rintro e w3 ⟨rfl, g⟩
            have HG3 := Lib.hid (HG2.out.trans g)
            have HV3 := Lib.hid (HV2.out.gr g)
            have HC3 := Lib.hid (HC2.out.gr g)
            clear r0 r1 r2 r3 r4 g
            obtain ⟨r0, r1, r2, r3, r4⟩ := HC3.out
            rcases hm with _ | _
            · go_wp2_with fail
              go_ret
              exact ⟨by rw [HZ.out]; rfl, HG3.out⟩
            · go_wp2_with fail
              go_ret
              exact ⟨by rw [HZ.out]; rfl, HG3.out⟩
        · rw [decide_eq_false hst] at HZ
          have hstb : (st == 0) = false := by simpa using hst
          go_wp2_with fail
          refine (HCO.out _ HV1.out).mono ?_
          rintro e w2 ⟨rfl, g⟩
          have HG2 := Lib.hid (HG1.out.trans g)
          have HV2 := Lib.hid (HV1.out.gr g)
          have HC2 := Lib.hid (HC1.out.gr g)
          clear r0 r1 r2 r3 r4 g
          obtain ⟨r0, r1, r2, r3, r4⟩ := HC2.out
          rcases ho with _ | _
          · go_wp2_with fail
            go_ret
            exact ⟨by rw [HZ.out]; rfl, HG2.out⟩
          · go_wp2_with fail
            refine (HCM.out _ HV2.out).mono ?_
            rintro e w3 ⟨rfl, g⟩
            have HG3 := Lib.hid (HG2.out.trans g)
            have HV3 := Lib.hid (HV2.out.gr g)
            have HC3 := Lib.hid (HC2.out.gr g)
            clear r0 r1 r2 r3 r4 g
            obtain ⟨r0, r1, r2, r3, r4⟩ := HC3.out
            rcases hm with _ | _
            · go_wp2_with fail
              go_ret
              exact ⟨by rw [HZ.out]; rfl, HG3.out⟩
            · go_wp2_with fail
              refine (HCS.out _ HV3.out).mono ?_
              rintro e w4 ⟨rfl, g⟩
              have HG4 := Lib.hid (HG3.out.trans g)
              have HV4 := Lib.hid (HV3.out.gr g)
              have HC4 := Lib.hid (HC3.out.gr g)
              clear r0 r1 r2 r3 r4 g
              obtain ⟨r0, r1, r2, r3, r4⟩ := HC4.out
              rcases hs with _ | _
              · go_wp2_with fail
                go_ret
                exact ⟨by rw [HZ.out]; rfl, HG4.out⟩
              · go_wp2_with fail
                go_ret
                exact ⟨by rw [HZ.out]; rfl, HG4.out⟩
    · rw [he] at HZ
      have he2 : other.toList = [] := List.isEmpty_iff.1 he
      by_cases hmn : mn = 0
      · subst hmn
        by_cases hst : st = 0
        · subst hst
          go_wp2_with fail
          go_ret
          exact ⟨by rw [HZ.out]; rfl, HG1.out⟩
        · rw [decide_eq_false hst] at HZ
          have hstb : (st == 0) = false := by simpa using hst
          go_wp2_with fail
          refine (HCS.out _ HV1.out).mono ?_
          rintro e w2 ⟨rfl, g⟩
          have HG2 := Lib.hid (HG1.out.trans g)
          have HV2 := Lib.hid (HV1.out.gr g)
          have HC2 := Lib.hid (HC1.out.gr g)
          clear r0 r1 r2 r3 r4 g
          obtain ⟨r0, r1, r2, r3, r4⟩ := HC2.out
          rcases hs with _ | _
          · go_wp2_with fail
            go_ret
            exact ⟨by rw [HZ.out]; rfl, HG2.out⟩
          · go_wp2_with fail
            go_ret
            exact ⟨by rw [HZ.out]; rfl, HG2.out⟩
      · rw [decide_eq_false hmn] at HZ
        have hmnb : (mn == 0) = false := by simpa using hmn
        by_cases hst : st = 0
        · subst hst
          go_wp2_with fail
          refine (HCM.out _ HV1.out).mono ?_
          rintro e w2 ⟨rfl, g⟩
          have HG2 := Lib.hid (HG1.out.trans g)
          have HV2 := Lib.hid (HV1.out.gr g)
          have HC2 := Lib.hid (HC1.out.gr g)
          clear r0 r1 r2 r3 r4 g
          obtain ⟨r0, r1, r2, r3, r4⟩ := HC2.out
          rcases hm with _ | _
          · go_wp2_with fail
            go_ret
            exact ⟨by rw [HZ.out]; rfl, HG2.out⟩
          · go_wp2_with fail
            go_ret
            exact ⟨by rw [HZ.out]; rfl, HG2.out⟩
        · rw [decide_eq_false hst] at HZ
          have hstb : (st == 0) = false := by simpa using hst
          go_wp2_with fail
          refine (HCM.out _ HV1.out).mono ?_
          rintro e w2 ⟨rfl, g⟩
          have HG2 := Lib.hid (HG1.out.trans g)
          have HV2 := Lib.hid (HV1.out.gr g)
          have HC2 := Lib.hid (HC1.out.gr g)
          clear r0 r1 r2 r3 r4 g
          obtain ⟨r0, r1, r2, r3, r4⟩ := HC2.out
          rcases hm with _ | _
          · go_wp2_with fail
            go_ret
            exact ⟨by rw [HZ.out]; rfl, HG2.out⟩
          · go_wp2_with fail
            refine (HCS.out _ HV2.out).mono ?_
            rintro e w3 ⟨rfl, g⟩
            have HG3 := Lib.hid (HG2.out.trans g)
            have HV3 := Lib.hid (HV2.out.gr g)
            have HC3 := Lib.hid (HC2.out.gr g)
            clear r0 r1 r2 r3 r4 g
            obtain ⟨r0, r1, r2, r3, r4⟩ := HC3.out
            rcases hs with _ | _
            · go_wp2_with fail
              go_ret
              exact ⟨by rw [HZ.out]; rfl, HG3.out⟩
            · go_wp2_with fail
              go_ret
              exact ⟨by rw [HZ.out]; rfl, HG3.out⟩
end Go.Proofs.YtnjmgknicffcbaaGreatDoor
namespace Go.Proofs.YtnjmgknicffcbaaGreatDoor
open Go.RowKit Go.Joins
set_option linter.unusedSimpArgs false
set_option linter.unusedVariables false

theorem fld0 (x : RU) (w : World) : (Instr.field 49 (.agg (ruv x)) 0).run Tryz.prog w = .ok (.int .i64 x.k) w := by kernel_rfl
theorem fld4 (x : RU) (w : World) : (Instr.field 49 (.agg (ruv x)) 4).run Tryz.prog w = .ok (.int .i64 x.start) w := by kernel_rfl
theorem int_beqR (a b : Int) : (a == b) = decide (a = b) := by
  by_cases h : a = b
  · rw [decide_eq_true h, h]; simp
  · rw [decide_eq_false h]; simpa using h
set_option maxRecDepth 100000 in
set_option maxHeartbeats 1000000 in
theorem joins_any (v : Value) (L : List RU) (r : RU) (kind : Int) (w : World) (hv : UV w v L) :
    Calls Tryz.prog 137 #[v, .agg (ruv r), .int .i64 kind] w fun e w' => e = .returned (.bool (joinsB L r kind)) ∧ Gr w w' := by
  obtain ⟨W, hW, hg, hr⟩ := rubox w r
  have HG := Lib.hid hg
  have HR := Lib.hid hr
  have HV := Lib.hid hv
  have HA := Lib.hid (fun w1 (g : Gr w w1) => ruleOf_any v L r.key w1 (hv.gr g))
  have HB := Lib.hid (fun w1 (g : Gr w w1) => ruleOf_any v L r.other w1 (hv.gr g))
  obtain ⟨a, ha⟩ : ∃ a, a = ruleR L r.key := ⟨_, rfl⟩
  obtain ⟨b, hb⟩ : ∃ b, b = ruleR L r.other := ⟨_, rfl⟩
  obtain ⟨q, hq⟩ : ∃ q, q = eqS r.key r.other := ⟨_, rfl⟩
  have hqe : (r.key.toList == r.other.toList) = q := hq.symm
  have hqn : (r.key.toList != r.other.toList) = !q := by rw [bne, hqe]
  obtain ⟨z1, hz1⟩ : ∃ z, z = decide (a.k = kind) := ⟨_, rfl⟩
  obtain ⟨z2, hz2⟩ : ∃ z, z = decide (b.k = kind) := ⟨_, rfl⟩
  have e1 : (a.k == kind) = z1 := by rw [int_beqR, hz1]
  have e2 : (b.k == kind) = z2 := by rw [int_beqR, hz2]
  have HZ : Hid (joinsB L r kind = (!q && (z1 && z2))) := Lib.hid (by rw [hq, hz1, hz2, ha, hb]; rfl)
  rw [← ha] at HA
  rw [← hb] at HB
  have f1 := fun w => fld0 a w
  have f2 := fun w => fld0 b w
  obtain ⟨r0, r1, r2, r3, r4⟩ := hr
  simp only [Nat.zero_add] at r0 r1 r2 r3 r4
  clear hg hq ha hb hz1 hz2 hv
  go_enter Tryz.func137, Tryz.ntmps137
  go_upto_region 1 with (fail)
  rw [← hW]
  clear hW
  rcases q with _ | _
  · go_wp2_with fail
    refine (HA.out _ HG.out).mono ?_
    rintro e w1 ⟨rfl, g⟩
    have HG1 := Lib.hid (HG.out.trans g)
    have HC := Lib.hid (HR.out.gr g)
    clear r0 r1 r2 r3 r4 g
    obtain ⟨r0, r1, r2, r3, r4⟩ := HC.out
    simp only [Nat.zero_add] at r0 r1 r2 r3 r4
    rcases z1 with _ | _
    · go_wp2_with fail
      go_ret
      exact ⟨by rw [HZ.out]; rfl, HG1.out⟩
    · go_wp2_with fail
      refine (HB.out _ HG1.out).mono ?_
      rintro e w2 ⟨rfl, g⟩
      have HG2 := Lib.hid (HG1.out.trans g)
      clear r0 r1 r2 r3 r4 g
      go_wp2_with fail
      go_ret
      exact ⟨by rw [HZ.out]; first | rfl | simp, HG2.out⟩
  · go_wp2_with fail
    go_ret
    exact ⟨by rw [HZ.out]; rfl, HG.out⟩
set_option maxRecDepth 100000 in
set_option maxHeartbeats 1000000 in
theorem begins_any (r : RU) (w : World) :
    Calls Tryz.prog 138 #[.agg (ruv r)] w fun e w' => e = .returned (.bool (beginsB r)) ∧ Gr w w' := by
  obtain ⟨W, hW, hg, hr⟩ := rubox w r
  have HG := Lib.hid hg
  obtain ⟨r0, r1, r2, r3, r4⟩ := hr
  simp only [Nat.zero_add] at r0 r1 r2 r3 r4
  obtain ⟨k, key, other, mn, st⟩ := r
  simp only [] at r0 r1 r2 r3 r4
  by_cases k2 : k = 2
  · subst k2
    have HZ : Hid (beginsB ⟨2, key, other, mn, st⟩ = decide (mn ≤ st)) := Lib.hid rfl
    obtain ⟨q, hq⟩ : ∃ q, q = decide (mn ≤ st) := ⟨_, rfl⟩
    rw [← hq] at HZ
    have hq2 : decide (mn ≤ st) = q := hq.symm
    clear hg hq
    go_enter Tryz.func138, Tryz.ntmps138
    go_upto_region 1 with (fail)
    rw [← hW]
    clear hW
    go_wp2_with fail
    go_ret
    exact ⟨by rw [HZ.out]; first | rfl | simp [hq2], HG.out⟩
  by_cases k7 : k = 7
  · subst k7
    by_cases s0 : st = 0
    · subst s0
      have HZ : Hid (beginsB ⟨7, key, other, mn, 0⟩ = true) := Lib.hid rfl
      clear hg k2
      go_enter Tryz.func138, Tryz.ntmps138
      go_upto_region 1 with (fail)
      rw [← hW]
      clear hW
      go_wp2_with fail
      go_ret
      exact ⟨by rw [HZ.out]; rfl, HG.out⟩
    · have s0b : (st == 0) = false := by simpa using s0
      obtain ⟨q, hq⟩ : ∃ q, q = decide (st = 1) := ⟨_, rfl⟩
      have s1b : (st == 1) = q := by rw [int_beqR, hq]
      have HZ : Hid (beginsB ⟨7, key, other, mn, st⟩ = q) := Lib.hid (by rw [hq]; unfold beginsB; simp [s0])
      clear hg k2 hq
      go_enter Tryz.func138, Tryz.ntmps138
      go_upto_region 1 with (fail)
      rw [← hW]
      clear hW
      go_wp2_with fail
      go_ret
      exact ⟨by rw [HZ.out]; first | rfl | simp, HG.out⟩
  · have k2b : (k == 2) = false := by simpa using k2
    have k7b : (k == 7) = false := by simpa using k7
    have HZ : Hid (beginsB ⟨k, key, other, mn, st⟩ = true) := Lib.hid (by unfold beginsB; rw [if_neg k2, if_neg k7])
    clear hg
    go_enter Tryz.func138, Tryz.ntmps138
    go_upto_region 1 with (fail)
    rw [← hW]
    clear hW
    go_wp2_with fail
    go_ret
    exact ⟨by rw [HZ.out]; rfl, HG.out⟩
end Go.Proofs.YtnjmgknicffcbaaGreatDoor
