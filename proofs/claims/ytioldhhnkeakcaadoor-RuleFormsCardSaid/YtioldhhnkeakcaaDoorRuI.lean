/- Walks over package rule: joins, begins, mayBe, Check. -/
import Derived.Test.YtioldhhnkeakcaaDoorRuH
namespace Go.Proofs.YtioldhhnkeakcaaDoor
open Go.RowKit Go.Joins
set_option linter.unusedSimpArgs false
set_option linter.unusedVariables false

theorem fld0 (x : RU) (w : World) : (Instr.field 39 (.agg (ruv x)) 0).run Tryd.prog w = .ok (.int .i64 x.k) w := by kernel_rfl
theorem fld4 (x : RU) (w : World) : (Instr.field 39 (.agg (ruv x)) 4).run Tryd.prog w = .ok (.int .i64 x.start) w := by kernel_rfl
theorem int_beqR (a b : Int) : (a == b) = decide (a = b) := by
  by_cases h : a = b
  · rw [decide_eq_true h, h]; simp
  · rw [decide_eq_false h]; simpa using h
set_option maxRecDepth 100000 in
set_option maxHeartbeats 1000000 in
theorem joins_any (v : Value) (L : List RU) (r : RU) (kind : Int) (w : World) (hv : UV w v L) :
    Calls Tryd.prog 53 #[v, .agg (ruv r), .int .i64 kind] w fun e w' => e = .returned (.bool (joinsB L r kind)) ∧ Gr w w' := by
  obtain ⟨W, hW, hg, hr⟩ := rubox w r
  have HG := Lib.hid hg
  have HR := Lib.hid hr
  have HV := Lib.hid hv
  have HA := Lib.hid (fun w1 (g : Gr w w1) => ruleOf_any v L r.key w1 (hv.gr g))
  have HB := Lib.hid (fun w1 (g : Gr w w1) => ruleOf_any v L r.other w1 (hv.gr g))
  obtain ⟨a, ha⟩ : ∃ a, a = ruleR L r.key := ⟨_, rfl⟩
  obtain ⟨b, hb⟩ : ∃ b, b = ruleR L r.other := ⟨_, rfl⟩
  obtain ⟨q, hq⟩ : ∃ q, q = eqS r.key r.other := ⟨_, rfl⟩
  have hqe : (r.key.toList == r.other.toList) = q := hq.symm
  have hqn : (r.key.toList != r.other.toList) = !q := by rw [bne, hqe]
  obtain ⟨z1, hz1⟩ : ∃ z, z = decide (a.k = kind) := ⟨_, rfl⟩
  obtain ⟨z2, hz2⟩ : ∃ z, z = decide (b.k = kind) := ⟨_, rfl⟩
  have e1 : (a.k == kind) = z1 := by rw [int_beqR, hz1]
  have e2 : (b.k == kind) = z2 := by rw [int_beqR, hz2]
  have HZ : Hid (joinsB L r kind = (!q && (z1 && z2))) := Lib.hid (by rw [hq, hz1, hz2, ha, hb]; rfl)
  rw [← ha] at HA
  rw [← hb] at HB
  have f1 := fun w => fld0 a w
  have f2 := fun w => fld0 b w
  obtain ⟨r0, r1, r2, r3, r4⟩ := hr
  simp only [Nat.zero_add] at r0 r1 r2 r3 r4
  clear hg hq ha hb hz1 hz2 hv
  go_enter Tryd.func53, Tryd.ntmps53
  go_upto_region 1 with (fail)
  rw [← hW]
  clear hW
  rcases q with _ | _
  · go_wp2_with fail
    refine (HA.out _ HG.out).mono ?_
    rintro e w1 ⟨rfl, g⟩
    have HG1 := Lib.hid (HG.out.trans g)
    have HC := Lib.hid (HR.out.gr g)
    clear r0 r1 r2 r3 r4 g
    obtain ⟨r0, r1, r2, r3, r4⟩ := HC.out
    simp only [Nat.zero_add] at r0 r1 r2 r3 r4
    rcases z1 with _ | _
    · go_wp2_with fail
      go_ret
      exact ⟨by rw [HZ.out]; rfl, HG1.out⟩
    · go_wp2_with fail
      refine (HB.out _ HG1.out).mono ?_
      rintro e w2 ⟨rfl, g⟩
      have HG2 := Lib.hid (HG1.out.trans g)
      clear r0 r1 r2 r3 r4 g
      go_wp2_with fail
      go_ret
      exact ⟨by rw [HZ.out]; first | rfl | simp, HG2.out⟩
  · go_wp2_with fail
    go_ret
    exact ⟨by rw [HZ.out]; rfl, HG.out⟩
set_option maxRecDepth 100000 in
set_option maxHeartbeats 1000000 in
theorem begins_any (r : RU) (w : World) :
    Calls Tryd.prog 54 #[.agg (ruv r)] w fun e w' => e = .returned (.bool (beginsB r)) ∧ Gr w w' := by
  obtain ⟨W, hW, hg, hr⟩ := rubox w r
  have HG := Lib.hid hg
  obtain ⟨r0, r1, r2, r3, r4⟩ := hr
  simp only [Nat.zero_add] at r0 r1 r2 r3 r4
  obtain ⟨k, key, other, mn, st⟩ := r
  simp only [] at r0 r1 r2 r3 r4
  by_cases k2 : k = 2
  · subst k2
    have HZ : Hid (beginsB ⟨2, key, other, mn, st⟩ = decide (mn ≤ st)) := Lib.hid rfl
    obtain ⟨q, hq⟩ : ∃ q, q = decide (mn ≤ st) := ⟨_, rfl⟩
    rw [← hq] at HZ
    have hq2 : decide (mn ≤ st) = q := hq.symm
    clear hg hq
    go_enter Tryd.func54, Tryd.ntmps54
    go_upto_region 1 with (fail)
    rw [← hW]
    clear hW
    go_wp2_with fail
    go_ret
    exact ⟨by rw [HZ.out]; first | rfl | simp [hq2], HG.out⟩
  by_cases k7 : k = 7
  · subst k7
    by_cases s0 : st = 0
    · subst s0
      have HZ : Hid (beginsB ⟨7, key, other, mn, 0⟩ = true) := Lib.hid rfl
      clear hg k2
      go_enter Tryd.func54, Tryd.ntmps54
      go_upto_region 1 with (fail)
      rw [← hW]
      clear hW
      go_wp2_with fail
      go_ret
      exact ⟨by rw [HZ.out]; rfl, HG.out⟩
    · have s0b : (st == 0) = false := by simpa using s0
      obtain ⟨q, hq⟩ : ∃ q, q = decide (st = 1) := ⟨_, rfl⟩
      have s1b : (st == 1) = q := by rw [int_beqR, hq]
      have HZ : Hid (beginsB ⟨7, key, other, mn, st⟩ = q) := Lib.hid (by rw [hq]; unfold beginsB; simp [s0])
      clear hg k2 hq
      go_enter Tryd.func54, Tryd.ntmps54
      go_upto_region 1 with (fail)
      rw [← hW]
      clear hW
      go_wp2_with fail
      go_ret
      exact ⟨by rw [HZ.out]; first | rfl | simp, HG.out⟩
  · have k2b : (k == 2) = false := by simpa using k2
    have k7b : (k == 7) = false := by simpa using k7
    have HZ : Hid (beginsB ⟨k, key, other, mn, st⟩ = true) := Lib.hid (by unfold beginsB; rw [if_neg k2, if_neg k7])
    clear hg
    go_enter Tryd.func54, Tryd.ntmps54
    go_upto_region 1 with (fail)
    rw [← hW]
    clear hW
    go_wp2_with fail
    go_ret
    exact ⟨by rw [HZ.out]; rfl, HG.out⟩
end Go.Proofs.YtioldhhnkeakcaaDoor
