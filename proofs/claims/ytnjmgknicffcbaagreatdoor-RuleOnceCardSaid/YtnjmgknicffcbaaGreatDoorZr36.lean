/- Walks over package rule: joins, begins, mayBe, Check. Walks over package rule: mayBe, Check. -/
import Derived.Test.YtnjmgknicffcbaaGreatDoorZr35
namespace Go.Proofs.YtnjmgknicffcbaaGreatDoor
open Go.RowKit Go.Joins
set_option linter.unusedSimpArgs false
set_option linter.unusedVariables false

theorem fld0 (x : RU) (w : World) : (Instr.field 49 (.agg (ruv x)) 0).run Tryz.prog w = .ok (.int .i64 x.k) w := by kernel_rfl
theorem fld4 (x : RU) (w : World) : (Instr.field 49 (.agg (ruv x)) 4).run Tryz.prog w = .ok (.int .i64 x.start) w := by kernel_rfl
theorem int_beqR (a b : Int) : (a == b) = decide (a = b) := by
  by_cases h : a = b
  · rw [decide_eq_true h, h]; simp
  · rw [decide_eq_false h]; simpa using h
set_option maxRecDepth 100000 in
set_option maxHeartbeats 1000000 in
theorem joins_any (v : Value) (L : List RU) (r : RU) (kind : Int) (w : World) (hv : UV w v L) :
    Calls Tryz.prog 137 #[v, .agg (ruv r), .int .i64 kind] w fun e w' => e = .returned (.bool (joinsB L r kind)) ∧ Gr w w' := by
  obtain ⟨W, hW, hg, hr⟩ := rubox w r
  have HG := Lib.hid hg
  have HR := Lib.hid hr
  have HV := Lib.hid hv
  have HA := Lib.hid (fun w1 (g : Gr w w1) => ruleOf_any v L r.key w1 (hv.gr g))
  have HB := Lib.hid (fun w1 (g : Gr w w1) => ruleOf_any v L r.other w1 (hv.gr g))
  obtain ⟨a, ha⟩ : ∃ a, a = ruleR L r.key := ⟨_, rfl⟩
  obtain ⟨b, hb⟩ : ∃ b, b = ruleR L r.other := ⟨_, rfl⟩
  obtain ⟨q, hq⟩ : ∃ q, q = eqS r.key r.other := ⟨_, rfl⟩
  have hqe : (r.key.toList == r.other.toList) = q := hq.symm
  have hqn : (r.key.toList != r.other.toList) = !q := by rw [bne, hqe]
  obtain ⟨z1, hz1⟩ : ∃ z, z = decide (a.k = kind) := ⟨_, rfl⟩
  obtain ⟨z2, hz2⟩ : ∃ z, z = decide (b.k = kind) := ⟨_, rfl⟩
  have e1 : (a.k == kind) = z1 := by rw [int_beqR, hz1]
  have e2 : (b.k == kind) = z2 := by rw [int_beqR, hz2]
  have HZ : Hid (joinsB L r kind = (!q && (z1 && z2))) := Lib.hid (by rw [hq, hz1, hz2, ha, hb]; rfl)
  rw [← ha] at HA
  rw [← hb] at HB
  have f1 := fun w => fld0 a w
  have f2 := fun w => fld0 b w
  obtain ⟨r0, r1, r2, r3, r4⟩ := hr
  simp only [Nat.zero_add] at r0 r1 r2 r3 r4
  clear hg hq ha hb hz1 hz2 hv
  go_enter Tryz.func137, Tryz.ntmps137
  go_upto_region 1 with (fail)
  rw [← hW]
  clear hW
  rcases q with _ | _
  · go_wp2_with fail
    refine (HA.out _ HG.out).mono ?_
    rintro e w1 ⟨rfl, g⟩
    have HG1 := Lib.hid (HG.out.trans g)
    have HC := Lib.hid (HR.out.gr g)
    clear r0 r1 r2 r3 r4 g
    obtain ⟨r0, r1, r2, r3, r4⟩ := HC.out
    simp only [Nat.zero_add] at r0 r1 r2 r3 r4
    rcases z1 with _ | _
    · go_wp2_with fail
      go_ret
      exact ⟨by rw [HZ.out]; rfl, HG1.out⟩
    · go_wp2_with fail
      refine (HB.out _ HG1.out).mono ?_
      rintro e w2 ⟨rfl, g⟩
      have HG2 := Lib.hid (HG1.out.trans g)
      clear r0 r1 r2 r3 r4 g
      go_wp2_with fail
      go_ret
      exact ⟨by rw [HZ.out]; first | rfl | simp, HG2.out⟩
  · go_wp2_with fail
    go_ret
    exact ⟨by rw [HZ.out]; rfl, HG.out⟩
set_option maxRecDepth 100000 in
set_option maxHeartbeats 1000000 in
theorem begins_any (r : RU) (w : World) :
    Calls Tryz.prog 138 #[.agg (ruv r)] w fun e w' => e = .returned (.bool (beginsB r)) ∧ Gr w w' := by
  obtain ⟨W, hW, hg, hr⟩ := rubox w r
  have HG := Lib.hid hg
  obtain ⟨r0, r1, r2, r3, r4⟩ := hr
  simp only [Nat.zero_add] at r0 r1 r2 r3 r4
  obtain ⟨k, key, other, mn, st⟩ := r
  simp only [] at r0 r1 r2 r3 r4
  by_cases k2 : k = 2
  · subst k2
    have HZ : Hid (beginsB ⟨2, key, other, mn, st⟩ = decide (mn ≤ st)) := Lib.hid rfl
    obtain ⟨q, hq⟩ : ∃ q, q = decide (mn ≤ st) := ⟨_, rfl⟩
    rw [← hq] at HZ
    have hq2 : decide (mn ≤ st) = q := hq.symm
    clear hg hq
    go_enter Tryz.func138, Tryz.ntmps138
    go_upto_region 1 with (fail)
    rw [← hW]
    clear hW
    go_wp2_with fail
    go_ret
    exact ⟨by rw [HZ.out]; first | rfl | simp [hq2], HG.out⟩
  by_cases k7 : k = 7
  · subst k7
    by_cases s0 : st = 0
    · subst s0
      have HZ : Hid (beginsB ⟨7, key, other, mn, 0⟩ = true) := Lib.hid rfl
      clear hg k2
      go_enter Tryz.func138, Tryz.ntmps138
      go_upto_region 1 with (fail)
      rw [← hW]
      clear hW
      go_wp2_with fail
      go_ret
      exact ⟨by rw [HZ.out]; rfl, HG.out⟩
    · have s0b : (st == 0) = false := by simpa using s0
      obtain ⟨q, hq⟩ : ∃ q, q = decide (st = 1) := ⟨_, rfl⟩
      have s1b : (st == 1) = q := by rw [int_beqR, hq]
      have HZ : Hid (beginsB ⟨7, key, other, mn, st⟩ = q) := Lib.hid (by rw [hq]; unfold beginsB; simp [s0])
      clear hg k2 hq
      go_enter Tryz.func138, Tryz.ntmps138
      go_upto_region 1 with (fail)
      rw [← hW]
      clear hW
      go_wp2_with fail
      go_ret
      exact ⟨by rw [HZ.out]; first | rfl | simp, HG.out⟩
  · have k2b : (k == 2) = false := by simpa using k2
    have k7b : (k == 7) = false := by simpa using k7
    have HZ : Hid (beginsB ⟨k, key, other, mn, st⟩ = true) := Lib.hid (by unfold beginsB; rw [if_neg k2, if_neg k7])
    clear hg
    go_enter Tryz.func138, Tryz.ntmps138
    go_upto_region 1 with (fail)
    rw [← hW]
    clear hW
    go_wp2_with fail
    go_ret
    exact ⟨by rw [HZ.out]; rfl, HG.out⟩
end Go.Proofs.YtnjmgknicffcbaaGreatDoor
namespace Go.Proofs.YtnjmgknicffcbaaGreatDoor
open Go.RowKit Go.Joins
set_option linter.unusedSimpArgs false
set_option linter.unusedVariables false

set_option maxRecDepth 100000 in
set_option maxHeartbeats 4000000 in
theorem mayBe_any (v : Value) (L : List RU) (i : Nat) (hi : i < L.length) (hks : ∀ r ∈ L, r.key.size ≤ 9223372036854775807) (w : World) (hv : UV w v L) (hp : Laid w) :
    Calls Tryz.prog 94 #[v, .int .i64 (i : Int)] w fun e w' => e = .returned (.bool (mayB L i L[i])) ∧ Gr w w' := by
  have hk := hks _ (List.getElem_mem hi)
  obtain ⟨r, hr⟩ : ∃ r, r = L[i] := ⟨_, rfl⟩
  rw [← hr] at hk ⊢
  obtain ⟨W, hW, hg, hc⟩ := rubox w r
  have HG1 := Lib.hid hg
  have HC1 := Lib.hid hc
  have HNA := Lib.hid (fun w1 (g : Gr w w1) => named_any r w1 (hp.gr g))
  have HKE := Lib.hid (fun w1 (g : Gr w w1) => key8_any r.key hk w1)
  have HMI := Lib.hid (fun w1 (g : Gr w w1) => rwithin_any r.min w1)
  have HST := Lib.hid (fun w1 (g : Gr w w1) => rwithin_any r.start w1)
  have HJ3 := Lib.hid (fun w1 (g : Gr w w1) => joins_any v L r 3 w1 (hv.gr g))
  have HJ7 := Lib.hid (fun w1 (g : Gr w w1) => joins_any v L r 7 w1 (hv.gr g))
  have HRA := Lib.hid (fun w1 (g : Gr w w1) => ruleOf_any v L r.key w1 (hv.gr g))
  have HRB := Lib.hid (fun w1 (g : Gr w w1) => ruleOf_any v L r.other w1 (hv.gr g))
  have HFI := Lib.hid (fun w1 (g : Gr w w1) => find_any v L r.key w1 (hv.gr g))
  have HBE := Lib.hid (fun w1 (g : Gr w w1) => begins_any r w1)
  obtain ⟨zn, hzn⟩ : ∃ z, z = namedB r := ⟨_, rfl⟩
  obtain ⟨zk, hzk⟩ : ∃ z, z = keyS r.key := ⟨_, rfl⟩
  obtain ⟨zm, hzm⟩ : ∃ z, z = inAB r.min := ⟨_, rfl⟩
  obtain ⟨zs, hzs⟩ : ∃ z, z = inAB r.start := ⟨_, rfl⟩
  obtain ⟨zf, hzf⟩ : ∃ z, z = decide (fInt L r.key = (i : Int)) := ⟨_, rfl⟩
  obtain ⟨za, hza⟩ : ∃ z, z = decide ((ruleR L r.key).start = 1) := ⟨_, rfl⟩
  obtain ⟨zb, hzb⟩ : ∃ z, z = decide ((ruleR L r.other).start = 1) := ⟨_, rfl⟩
  obtain ⟨zj, hzj⟩ : ∃ z, z = joinsB L r 7 := ⟨_, rfl⟩
  have ef : (fInt L r.key == (i : Int)) = zf := by rw [int_beqR, hzf]
  have ea : ((ruleR L r.key).start == 1) = za := by rw [int_beqR, hza]
  have eb : ((ruleR L r.other).start == 1) = zb := by rw [int_beqR, hzb]
  rw [← hzn] at HNA
  rw [← hzk] at HKE
  rw [← hzm] at HMI
  rw [← hzs] at HST
  rw [← hzj] at HJ7
  have fa := fun w => fld4 (ruleR L r.key) w
  have fb := fun w => fld4 (ruleR L r.other) w
  obtain ⟨A, c, rfl, l1, ⟨l2, _⟩, l3⟩ := hv
  have l2' : c ≤ 9223372036854775807 := l2
  obtain ⟨b, off, rfl, c5⟩ := l3 i hi
  rw [← hr] at c5
  obtain ⟨c0, c1, c2, c3, c4⟩ := c5
  obtain ⟨n, hn⟩ : ∃ n, n = L.length := ⟨_, rfl⟩
  rw [← hn] at hi l1 HJ3 HJ7 HRA HRB HFI ⊢
  have t0 : (0 : Int) ≤ (i : Int) := by omega
  have t1 : (i : Int) < (n : Int) := by omega
  clear hn l3 l2 hg hc hk hks hp hr
  by_cases hk9 : r.k = 9
  · have k9b : (r.k == 9) = true := by rw [hk9]; rfl
    have HZ : Hid (mayB L i r = (zn && zk && (zm && zs) && joinsB L r 3)) := Lib.hid (by rw [hzn, hzk, hzm, hzs]; unfold mayB; rw [if_pos hk9])
    clear hk9 hzn hzk hzm hzs hzf hza hzb hzj
    go_enter Tryz.func94, Tryz.ntmps94
    go_upto_region 2 with (fail)
    change Code.wp Tryz.prog _ _ _ (w.alloc (.cells (ruv r) 49))
    rw [← hW]
    clear hW c0 c1 c2 c3 c4
    obtain ⟨r0, r1, r2, r3, r4⟩ := HC1.out
    simp only [Nat.zero_add] at r0 r1 r2 r3 r4
    go_wp2_with fail
    refine (HNA.out _ HG1.out).mono ?_
    rintro e w2 ⟨rfl, g⟩
    have HG2 := Lib.hid (HG1.out.trans g)
    have HC2 := Lib.hid (HC1.out.gr g)
    clear g r0 r1 r2 r3 r4
    obtain ⟨r0, r1, r2, r3, r4⟩ := HC2.out
    simp only [Nat.zero_add] at r0 r1 r2 r3 r4
    rcases zn with _ | _
    · go_wp2_with fail
      go_ret
      exact ⟨by rw [HZ.out]; first | rfl | simp, HG2.out⟩
    · go_wp2_with fail
      refine (HKE.out _ HG2.out).mono ?_
      rintro e w3 ⟨rfl, rfl⟩
      have HG3 := Lib.hid (HG2.out)
      have HC3 := Lib.hid (HC2.out)
      clear r0 r1 r2 r3 r4
      obtain ⟨r0, r1, r2, r3, r4⟩ := HC3.out
      simp only [Nat.zero_add] at r0 r1 r2 r3 r4
      rcases zk with _ | _
      · go_wp2_with fail
        go_ret
        exact ⟨by rw [HZ.out]; first | rfl | simp, HG3.out⟩
      · go_wp2_with fail
        refine (HMI.out _ HG3.out).mono ?_
        rintro e w4 ⟨rfl, g⟩
        have HG4 := Lib.hid (HG3.out.trans g)
        have HC4 := Lib.hid (HC3.out.gr g)
        clear g r0 r1 r2 r3 r4
        obtain ⟨r0, r1, r2, r3, r4⟩ := HC4.out
        simp only [Nat.zero_add] at r0 r1 r2 r3 r4
        rcases zm with _ | _
        · go_wp2_with fail
          go_ret
          exact ⟨by rw [HZ.out]; first | rfl | simp, HG4.out⟩
        · go_wp2_with fail
          refine (HST.out _ HG4.out).mono ?_
          rintro e w5 ⟨rfl, g⟩
          have HG5 := Lib.hid (HG4.out.trans g)
          have HC5 := Lib.hid (HC4.out.gr g)
          clear g r0 r1 r2 r3 r4
          obtain ⟨r0, r1, r2, r3, r4⟩ := HC5.out
          simp only [Nat.zero_add] at r0 r1 r2 r3 r4
          rcases zs with _ | _
          · go_wp2_with fail
            go_ret
            exact ⟨by rw [HZ.out]; first | rfl | simp, HG5.out⟩
          · go_wp2_with fail
            refine (HJ3.out _ HG5.out).mono ?_
            rintro e w6 ⟨rfl, g⟩
            have HG6 := Lib.hid (HG5.out.trans g)
            have HC6 := Lib.hid (HC5.out.gr g)
            clear g r0 r1 r2 r3 r4
            obtain ⟨r0, r1, r2, r3, r4⟩ := HC6.out
            simp only [Nat.zero_add] at r0 r1 r2 r3 r4
            go_wp2_with fail
            go_ret
            exact ⟨by rw [HZ.out]; first | rfl | simp, HG6.out⟩
  by_cases hk10 : r.k = 10
  · have k9b : (r.k == 9) = false := by rw [hk10]; rfl
    have k10b : (r.k == 10) = true := by rw [hk10]; rfl
    have HZ : Hid (mayB L i r = (zn && zk && (zm && zs) && (zj && (za || zb)))) := Lib.hid (by rw [hzn, hzk, hzm, hzs, hzj, hza, hzb]; unfold mayB; rw [if_neg hk9, if_pos hk10])
    clear hk9 hk10 hzn hzk hzm hzs hzf hza hzb hzj
    go_enter Tryz.func94, Tryz.ntmps94
    go_upto_region 2 with (fail)
    change Code.wp Tryz.prog _ _ _ (w.alloc (.cells (ruv r) 49))
    rw [← hW]
    clear hW c0 c1 c2 c3 c4
    obtain ⟨r0, r1, r2, r3, r4⟩ := HC1.out
    simp only [Nat.zero_add] at r0 r1 r2 r3 r4
    go_wp2_with fail
    refine (HNA.out _ HG1.out).mono ?_
    rintro e w2 ⟨rfl, g⟩
    have HG2 := Lib.hid (HG1.out.trans g)
    have HC2 := Lib.hid (HC1.out.gr g)
    clear g r0 r1 r2 r3 r4
    obtain ⟨r0, r1, r2, r3, r4⟩ := HC2.out
    simp only [Nat.zero_add] at r0 r1 r2 r3 r4
    rcases zn with _ | _
    · go_wp2_with fail
      go_ret
      exact ⟨by rw [HZ.out]; first | rfl | simp, HG2.out⟩
    · go_wp2_with fail
      refine (HKE.out _ HG2.out).mono ?_
      rintro e w3 ⟨rfl, rfl⟩
      have HG3 := Lib.hid (HG2.out)
      have HC3 := Lib.hid (HC2.out)
      clear r0 r1 r2 r3 r4
      obtain ⟨r0, r1, r2, r3, r4⟩ := HC3.out
      simp only [Nat.zero_add] at r0 r1 r2 r3 r4
      rcases zk with _ | _
      · go_wp2_with fail
        go_ret
        exact ⟨by rw [HZ.out]; first | rfl | simp, HG3.out⟩
      · go_wp2_with fail
        refine (HMI.out _ HG3.out).mono ?_
        rintro e w4 ⟨rfl, g⟩
        have HG4 := Lib.hid (HG3.out.trans g)
        have HC4 := Lib.hid (HC3.out.gr g)
        clear g r0 r1 r2 r3 r4
        obtain ⟨r0, r1, r2, r3, r4⟩ := HC4.out
        simp only [Nat.zero_add] at r0 r1 r2 r3 r4
        rcases zm with _ | _
        · go_wp2_with fail
          go_ret
          exact ⟨by rw [HZ.out]; first | rfl | simp, HG4.out⟩
        · go_wp2_with fail
          refine (HST.out _ HG4.out).mono ?_
          rintro e w5 ⟨rfl, g⟩
          have HG5 := Lib.hid (HG4.out.trans g)
          have HC5 := Lib.hid (HC4.out.gr g)
          clear g r0 r1 r2 r3 r4
          obtain ⟨r0, r1, r2, r3, r4⟩ := HC5.out
          simp only [Nat.zero_add] at r0 r1 r2 r3 r4
          rcases zs with _ | _
          · go_wp2_with fail
            go_ret
            exact ⟨by rw [HZ.out]; first | rfl | simp, HG5.out⟩
          · go_wp2_with fail
            refine (HJ7.out _ HG5.out).mono ?_
            rintro e w6 ⟨rfl, g⟩
            have HG6 := Lib.hid (HG5.out.trans g)
            have HC6 := Lib.hid (HC5.out.gr g)
            clear g r0 r1 r2 r3 r4
            obtain ⟨r0, r1, r2, r3, r4⟩ := HC6.out
            simp only [Nat.zero_add] at r0 r1 r2 r3 r4
            rcases zj with _ | _
            · go_wp2_with fail
              go_ret
              exact ⟨by rw [HZ.out]; first | rfl | simp, HG6.out⟩
            · go_wp2_with fail
              refine (HRA.out _ HG6.out).mono ?_
              rintro e w7 ⟨rfl, g⟩
              have HG7 := Lib.hid (HG6.out.trans g)
              have HC7 := Lib.hid (HC6.out.gr g)
              clear g r0 r1 r2 r3 r4
              obtain ⟨r0, r1, r2, r3, r4⟩ := HC7.out
              simp only [Nat.zero_add] at r0 r1 r2 r3 r4
              rcases za with _ | _
              · go_wp2_with fail
                refine (HRB.out _ HG7.out).mono ?_
                rintro e w8 ⟨rfl, g⟩
                have HG8 := Lib.hid (HG7.out.trans g)
                have HC8 := Lib.hid (HC7.out.gr g)
                clear g r0 r1 r2 r3 r4
                obtain ⟨r0, r1, r2, r3, r4⟩ := HC8.out
                simp only [Nat.zero_add] at r0 r1 r2 r3 r4
                go_wp2_with fail
                go_ret
                exact ⟨by rw [HZ.out]; first | rfl | simp, HG8.out⟩
              · go_wp2_with fail
                go_ret
                exact ⟨by rw [HZ.out]; first | rfl | simp, HG7.out⟩
  have k9b : (r.k == 9) = false := by simpa using hk9
  have k10b : (r.k == 10) = false := by simpa using hk10
  have HZ : Hid (mayB L i r = (zn && zk && (zm && zs) && (zf && beginsB r))) := Lib.hid (by rw [hzn, hzk, hzm, hzs, hzf]; unfold mayB; rw [if_neg hk9, if_neg hk10])
  clear hzn hzk hzm hzs hzf hza hzb hzj
  go_enter Tryz.func94, Tryz.ntmps94
  go_upto_region 2 with (fail)
  change Code.wp Tryz.prog _ _ _ (w.alloc (.cells (ruv r) 49))
  rw [← hW]
  clear hW c0 c1 c2 c3 c4
  obtain ⟨r0, r1, r2, r3, r4⟩ := HC1.out
  simp only [Nat.zero_add] at r0 r1 r2 r3 r4
  go_wp2_with fail
  refine (HNA.out _ HG1.out).mono ?_
  rintro e w2 ⟨rfl, g⟩
  have HG2 := Lib.hid (HG1.out.trans g)
  have HC2 := Lib.hid (HC1.out.gr g)
  clear g r0 r1 r2 r3 r4
  obtain ⟨r0, r1, r2, r3, r4⟩ := HC2.out
  simp only [Nat.zero_add] at r0 r1 r2 r3 r4
  rcases zn with _ | _
  · go_wp2_with fail
    go_ret
    exact ⟨by rw [HZ.out]; first | rfl | simp, HG2.out⟩
  · go_wp2_with fail
    refine (HKE.out _ HG2.out).mono ?_
    rintro e w3 ⟨rfl, rfl⟩
    have HG3 := Lib.hid (HG2.out)
    have HC3 := Lib.hid (HC2.out)
    clear r0 r1 r2 r3 r4
    obtain ⟨r0, r1, r2, r3, r4⟩ := HC3.out
    simp only [Nat.zero_add] at r0 r1 r2 r3 r4
    rcases zk with _ | _
    · go_wp2_with fail
      go_ret
      exact ⟨by rw [HZ.out]; first | rfl | simp, HG3.out⟩
    · go_wp2_with fail
      refine (HMI.out _ HG3.out).mono ?_
      rintro e w4 ⟨rfl, g⟩
      have HG4 := Lib.hid (HG3.out.trans g)
      have HC4 := Lib.hid (HC3.out.gr g)
      clear g r0 r1 r2 r3 r4
      obtain ⟨r0, r1, r2, r3, r4⟩ := HC4.out
      simp only [Nat.zero_add] at r0 r1 r2 r3 r4
      rcases zm with _ | _
      · go_wp2_with fail
        go_ret
        exact ⟨by rw [HZ.out]; first | rfl | simp, HG4.out⟩
      · go_wp2_with fail
        refine (HST.out _ HG4.out).mono ?_
        rintro e w5 ⟨rfl, g⟩
        have HG5 := Lib.hid (HG4.out.trans g)
        have HC5 := Lib.hid (HC4.out.gr g)
        clear g r0 r1 r2 r3 r4
        obtain ⟨r0, r1, r2, r3, r4⟩ := HC5.out
        simp only [Nat.zero_add] at r0 r1 r2 r3 r4
        rcases zs with _ | _
        · go_wp2_with fail
          go_ret
          exact ⟨by rw [HZ.out]; first | rfl | simp, HG5.out⟩
        · go_wp2_with fail
          refine (HFI.out _ HG5.out).mono ?_
          rintro e w6 ⟨rfl, g⟩
          have HG6 := Lib.hid (HG5.out.trans g)
          have HC6 := Lib.hid (HC5.out.gr g)
          clear g r0 r1 r2 r3 r4
          obtain ⟨r0, r1, r2, r3, r4⟩ := HC6.out
          simp only [Nat.zero_add] at r0 r1 r2 r3 r4
          rcases zf with _ | _
          · go_wp2_with fail
            go_ret
            exact ⟨by rw [HZ.out]; first | rfl | simp, HG6.out⟩
          · go_wp2_with fail
            refine (HBE.out _ HG6.out).mono ?_
            rintro e w7 ⟨rfl, g⟩
            have HG7 := Lib.hid (HG6.out.trans g)
            have HC7 := Lib.hid (HC6.out.gr g)
            clear g r0 r1 r2 r3 r4
            obtain ⟨r0, r1, r2, r3, r4⟩ := HC7.out
            simp only [Nat.zero_add] at r0 r1 r2 r3 r4
            go_wp2_with fail
            go_ret
            exact ⟨by rw [HZ.out]; first | rfl | simp, HG7.out⟩
def CkRel (L : List RU) (w : World) (i : Value) (wr : World) : Prop := ∃ j : Nat, j ≤ L.length ∧ i = .int .i64 (j : Int) ∧ Gr w wr ∧ ∀ q (hq : q < L.length), q < j → mayB L q L[q] = true
set_option maxRecDepth 100000 in
set_option maxHeartbeats 1000000 in
theorem rucheck_any (v : Value) (L : List RU) (hks : ∀ r ∈ L, r.key.size ≤ 9223372036854775807) (w : World) (hv : UV w v L) (hp : Laid w) :
    Calls Tryz.prog 48 #[v] w fun e w' => e = .returned (.int .i64 (checkC L)) ∧ Gr w w' := by
  have HV := Lib.hid hv
  obtain ⟨A, c, rfl, l1, ⟨l2, _⟩, l3⟩ := hv
  have l2' : c ≤ 9223372036854775807 := l2
  obtain ⟨n, hn⟩ : ∃ n, n = L.length := ⟨_, rfl⟩
  have HN := Lib.hid hn
  have HM : Hid (∀ i (hi : i < L.length) (w1 : World), Gr w w1 → Calls Tryz.prog 94 #[.slice A n c, .int .i64 (i : Int)] w1 fun e w' => e = .returned (.bool (mayB L i L[i])) ∧ Gr w1 w') := Lib.hid (fun i hi w1 g => by rw [hn]; exact mayBe_any _ L i hi hks w1 (HV.out.gr g) (hp.gr g))
  rw [← hn] at l1 ⊢
  by_cases hb : 64 < n
  · have t1 : (64 : Int) < (n : Int) := by omega
    have HZ : Hid (checkC L = 4) := Lib.hid (by unfold checkC; rw [if_pos (by rw [← HN.out]; exact hb)])
    clear hn l3 l2 hks hp
    go_enter Tryz.func48, Tryz.ntmps48
    go_wp2_with fail
    go_ret
    exact ⟨by rw [HZ.out]; rfl, Gr.refl _⟩
  · have t1 : ¬ (64 : Int) < (n : Int) := by omega
    have HB : Hid (¬ 64 < L.length) := Lib.hid (by rw [← HN.out]; exact hb)
    clear hn l3 l2 hks hp
    go_enter Tryz.func48, Tryz.ntmps48
    go_wp2_with fail
    go_loopw [3, 9] (fun s3 i wr => CkRel L w i wr) (fun s3 i _ => n - (intOf i).toNat)
    case atStart => exact ⟨0, Nat.zero_le _, rfl, Gr.refl _, fun _ _ h => absurd h (Nat.not_lt_zero _)⟩
    case round =>
      obtain ⟨j, hj, rfl, hgr, hall⟩ := hrel
      have HGR := Lib.hid hgr
      have HAL := Lib.hid hall
      clear hall
      by_cases hlt : j < n
      · have hjL : j < L.length := by rw [← HN.out]; exact hlt
        have HC := Lib.hid (HM.out j hjL wr hgr)
        have u1 : (j : Int) < (n : Int) := by omega
        have u2 : wrap64 ((j : Int) + 1) = ((j + 1 : Nat) : Int) := by unfold wrap64; omega
        rcases hq : mayB L j L[j] with _ | _
        · rw [hq] at HC
          have HZ : Hid (checkC L = 140) := Lib.hid (by unfold checkC; rw [if_neg HB.out, if_neg (by rw [allAt_bad hjL hq]; exact Bool.false_ne_true)])
          clear hq hgr hj hjL
          go_wp2_with fail
          refine HC.out.mono ?_
          rintro e w1 ⟨rfl, g⟩
          have HG1 := Lib.hid (HGR.out.trans g)
          clear g
          go_wp2_with fail
          go_ret
          exact ⟨by rw [HZ.out]; rfl, HG1.out⟩
        · rw [hq] at HC
          have HA2 : Hid (∀ q (hq : q < L.length), q < j + 1 → mayB L q L[q] = true) := Lib.hid fun q hqq hjk => by
            by_cases e : q = j
            · subst e; exact hq
            · exact HAL.out q hqq (by omega)
          clear hq hgr hj hjL
          go_wp2_with fail
          refine HC.out.mono ?_
          rintro e w1 ⟨rfl, g⟩
          have HG1 := Lib.hid (HGR.out.trans g)
          clear g
          go_wp2_with fail
          go_roundw
          case rel => exact ⟨j + 1, by rw [← HN.out]; omega, by go_num, HG1.out, HA2.out⟩
          case measure => simp [intOf]; omega
      · have u1 : ¬ (j : Int) < (n : Int) := by omega
        have HZ : Hid (checkC L = 0) := Lib.hid (by unfold checkC; rw [if_neg HB.out, if_pos (allAt_good fun q hq => HAL.out q hq (by rw [← HN.out] at hq; omega))])
        clear hgr
        go_wp2_with fail
        go_ret
        exact ⟨by rw [HZ.out]; rfl, HGR.out⟩
end Go.Proofs.YtnjmgknicffcbaaGreatDoor
