/- Walks: the document's Check of a transaction. -/
import Derived.Test.YtnjmgknicffcbaaGreatDoorZr05
import Derived.Test.YtnjmgknicffcbaaGreatDoorZr07
import Derived.Deep.DeepCutAuto
namespace Go.Proofs.YtnjmgknicffcbaaGreatDoor
open Go.RowKit

theorem xfix_dep {w : World} {b : Nat} {t : TX} {v : Value} (h : XFix w b 0 t v) {i : Nat} (hi : i < 8) : w.cell? ⟨b, 3 + i, none⟩ = some (.int .u64 (t.deps i : Int)) := by
  obtain ⟨h1, h2, h3, h4, h5, h6, h7, h8, h9, h10, h11, h12⟩ := h
  match i, hi with
  | 0, _ => exact h4
  | 1, _ => exact h5
  | 2, _ => exact h6
  | 3, _ => exact h7
  | 4, _ => exact h8
  | 5, _ => exact h9
  | 6, _ => exact h10
  | 7, _ => exact h11

set_option maxRecDepth 100000 in
set_option maxHeartbeats 8000000 in
theorem rcheck8_any (t : TX) (v : Value) (hq : t.seq < 18446744073709551616) (hks : ∀ o ∈ t.ops, o.key.size ≤ 9223372036854775807) (w : World) (hv : TOV w v t.ops) :
    Calls Tryz.prog 44 #[.agg (tcs t v)] w fun e w' => e = .returned (.int .i64 (checkN t : Int)) ∧ Gr w w' := by
  obtain ⟨A, c, rfl, l1, ⟨l2, _⟩, l3⟩ := hv
  unfold maxLen at l2
  obtain ⟨W, hW, hg, hx⟩ := xbox w t (.slice A t.ops.length c)
  have HX := Lib.hid hx
  have HG := Lib.hid hg
  have HOP := Lib.hid l3
  have HKS := Lib.hid hks
  obtain ⟨n, hn⟩ : ∃ n, n = t.ops.length := ⟨_, rfl⟩
  rw [← hn] at HX hW l1 ⊢
  have HN := Lib.hid hn
  obtain ⟨og, hog⟩ : ∃ x, x = t.origin := ⟨_, rfl⟩
  obtain ⟨sq, hsq⟩ : ∃ x, x = t.seq := ⟨_, rfl⟩
  obtain ⟨st, hst⟩ : ∃ x, x = t.stamp := ⟨_, rfl⟩
  have HOG := Lib.hid hog
  have HSQ := Lib.hid hsq
  have HST := Lib.hid hst
  have HB : Hid (W.drew.cell? ⟨w.heap.size, 0, none⟩ = some (.int .i64 og) ∧ W.drew.cell? ⟨w.heap.size, 1, none⟩ = some (.int .u64 (sq : Int)) ∧ W.drew.cell? ⟨w.heap.size, 2, none⟩ = some (.int .u64 (st : Int)) ∧ W.drew.cell? ⟨w.heap.size, 11, none⟩ = some (.slice A n c) ∧ Gr W W.drew) := Lib.hid (by
    obtain ⟨h1, h2, h3, h4, h5, h6, h7, h8, h9, h10, h11, h12⟩ := HX.out.gr (Gr.refl W).drew
    exact ⟨by rw [hog]; exact h1, by rw [hsq]; exact h2, by rw [hst]; exact h3, h12, (Gr.refl W).drew⟩)
  rw [← hsq] at hq
  clear hx hg hks l3 hn hog hsq hst

  by_cases h0 : og < 0
  case pos =>
    have d0 : decide (og < 0) = true := decide_eq_true h0
    have HF := Lib.hid (show checkN t = 80 from check_no (fun h => by have := h.1.1; rw [← HOG.out] at this; omega))
    go_enter Tryz.func44, Tryz.ntmps44
    go_upto_region 1 with (fail)
    rw [← hW]
    clear hW
    refine qRegion (fun w' => w'.cell? ⟨w.heap.size, 0, none⟩ = some (.int .i64 og) ∧ w'.cell? ⟨w.heap.size, 1, none⟩ = some (.int .u64 (sq : Int)) ∧ w'.cell? ⟨w.heap.size, 2, none⟩ = some (.int .u64 (st : Int)) ∧ w'.cell? ⟨w.heap.size, 11, none⟩ = some (.slice A n c) ∧ Gr W w') (by kernel_rfl) (by kernel_rfl) HB.out ?_
    iterate 4
      refine qTake (by kernel_rfl) ?_
      apply Exists.intro
      refine ⟨fun wq hq => ?_, ?_⟩
      · go_light
        obtain ⟨q0, q1, q2, q11, -⟩ := hq
        go_simp
        try with_reducible rfl
        done
      try simp only [Act.put, List.setIfInBounds_toArray, List.set_cons_zero, List.set_cons_succ]
    iterate 3
      refine qSkip (by kernel_rfl) ?_
      try simp only [Act.put, List.setIfInBounds_toArray, List.set_cons_zero, List.set_cons_succ]
    iterate 2
      refine qTake (by kernel_rfl) ?_
      apply Exists.intro
      refine ⟨fun wq hq => ?_, ?_⟩
      · go_light
        obtain ⟨q0, q1, q2, q11, -⟩ := hq
        go_simp
        try with_reducible rfl
        done
      try simp only [Act.put, List.setIfInBounds_toArray, List.set_cons_zero, List.set_cons_succ]
    iterate 3
      refine qSkip (by kernel_rfl) ?_
      try simp only [Act.put, List.setIfInBounds_toArray, List.set_cons_zero, List.set_cons_succ]
    iterate 2
      refine qTake (by kernel_rfl) ?_
      apply Exists.intro
      refine ⟨fun wq hq => ?_, ?_⟩
      · go_light
        obtain ⟨q0, q1, q2, q11, -⟩ := hq
        go_simp
        try with_reducible rfl
        done
      try simp only [Act.put, List.setIfInBounds_toArray, List.set_cons_zero, List.set_cons_succ]
    iterate 3
      refine qSkip (by kernel_rfl) ?_
      try simp only [Act.put, List.setIfInBounds_toArray, List.set_cons_zero, List.set_cons_succ]
    iterate 2
      refine qTake (by kernel_rfl) ?_
      apply Exists.intro
      refine ⟨fun wq hq => ?_, ?_⟩
      · go_light
        obtain ⟨q0, q1, q2, q11, -⟩ := hq
        go_simp
        try with_reducible rfl
        done
      try simp only [Act.put, List.setIfInBounds_toArray, List.set_cons_zero, List.set_cons_succ]
    iterate 9
      refine qSkip (by kernel_rfl) ?_
      try simp only [Act.put, List.setIfInBounds_toArray, List.set_cons_zero, List.set_cons_succ]
    iterate 2
      refine qTake (by kernel_rfl) ?_
      apply Exists.intro
      refine ⟨fun wq hq => ?_, ?_⟩
      · go_light
        obtain ⟨q0, q1, q2, q11, -⟩ := hq
        go_simp
        try with_reducible rfl
        done
      try simp only [Act.put, List.setIfInBounds_toArray, List.set_cons_zero, List.set_cons_succ]
    iterate 4
      refine qSkip (by kernel_rfl) ?_
      try simp only [Act.put, List.setIfInBounds_toArray, List.set_cons_zero, List.set_cons_succ]
    iterate 2
      refine qTake (by kernel_rfl) ?_
      apply Exists.intro
      refine ⟨fun wq hq => ?_, ?_⟩
      · go_light
        obtain ⟨q0, q1, q2, q11, -⟩ := hq
        go_simp
        try with_reducible rfl
        done
      try simp only [Act.put, List.setIfInBounds_toArray, List.set_cons_zero, List.set_cons_succ]
    iterate 4
      refine qSkip (by kernel_rfl) ?_
      try simp only [Act.put, List.setIfInBounds_toArray, List.set_cons_zero, List.set_cons_succ]
    iterate 1
      refine qTake (by kernel_rfl) ?_
      apply Exists.intro
      refine ⟨fun wq hq => ?_, ?_⟩
      · go_light
        obtain ⟨q0, q1, q2, q11, -⟩ := hq
        go_simp
        try with_reducible rfl
        done
      try simp only [Act.put, List.setIfInBounds_toArray, List.set_cons_zero, List.set_cons_succ]
    refine qNil ?_
    rintro w3 ⟨-, -, -, -, hg3⟩
    have HG3 := Lib.hid (HG.out.trans hg3)
    clear hg3
    go_wp2_with fail
    go_ret
    exact ⟨by rw [HF.out]; rfl, HG3.out⟩
  have d0 : decide (og < 0) = false := decide_eq_false h0
  by_cases h8 : 8 ≤ og
  case pos =>
    have d8 : decide (8 ≤ og) = true := decide_eq_true h8
    have HF := Lib.hid (show checkN t = 80 from check_no (fun h => by have := h.1.2.1; rw [← HOG.out] at this; omega))
    go_enter Tryz.func44, Tryz.ntmps44
    go_upto_region 1 with (fail)
    rw [← hW]
    clear hW
    refine qRegion (fun w' => w'.cell? ⟨w.heap.size, 0, none⟩ = some (.int .i64 og) ∧ w'.cell? ⟨w.heap.size, 1, none⟩ = some (.int .u64 (sq : Int)) ∧ w'.cell? ⟨w.heap.size, 2, none⟩ = some (.int .u64 (st : Int)) ∧ w'.cell? ⟨w.heap.size, 11, none⟩ = some (.slice A n c) ∧ Gr W w') (by kernel_rfl) (by kernel_rfl) HB.out ?_
    iterate 9
      refine qTake (by kernel_rfl) ?_
      apply Exists.intro
      refine ⟨fun wq hq => ?_, ?_⟩
      · go_light
        obtain ⟨q0, q1, q2, q11, -⟩ := hq
        go_simp
        try with_reducible rfl
        done
      try simp only [Act.put, List.setIfInBounds_toArray, List.set_cons_zero, List.set_cons_succ]
    iterate 3
      refine qSkip (by kernel_rfl) ?_
      try simp only [Act.put, List.setIfInBounds_toArray, List.set_cons_zero, List.set_cons_succ]
    iterate 2
      refine qTake (by kernel_rfl) ?_
      apply Exists.intro
      refine ⟨fun wq hq => ?_, ?_⟩
      · go_light
        obtain ⟨q0, q1, q2, q11, -⟩ := hq
        go_simp
        try with_reducible rfl
        done
      try simp only [Act.put, List.setIfInBounds_toArray, List.set_cons_zero, List.set_cons_succ]
    iterate 3
      refine qSkip (by kernel_rfl) ?_
      try simp only [Act.put, List.setIfInBounds_toArray, List.set_cons_zero, List.set_cons_succ]
    iterate 2
      refine qTake (by kernel_rfl) ?_
      apply Exists.intro
      refine ⟨fun wq hq => ?_, ?_⟩
      · go_light
        obtain ⟨q0, q1, q2, q11, -⟩ := hq
        go_simp
        try with_reducible rfl
        done
      try simp only [Act.put, List.setIfInBounds_toArray, List.set_cons_zero, List.set_cons_succ]
    iterate 9
      refine qSkip (by kernel_rfl) ?_
      try simp only [Act.put, List.setIfInBounds_toArray, List.set_cons_zero, List.set_cons_succ]
    iterate 2
      refine qTake (by kernel_rfl) ?_
      apply Exists.intro
      refine ⟨fun wq hq => ?_, ?_⟩
      · go_light
        obtain ⟨q0, q1, q2, q11, -⟩ := hq
        go_simp
        try with_reducible rfl
        done
      try simp only [Act.put, List.setIfInBounds_toArray, List.set_cons_zero, List.set_cons_succ]
    iterate 4
      refine qSkip (by kernel_rfl) ?_
      try simp only [Act.put, List.setIfInBounds_toArray, List.set_cons_zero, List.set_cons_succ]
    iterate 2
      refine qTake (by kernel_rfl) ?_
      apply Exists.intro
      refine ⟨fun wq hq => ?_, ?_⟩
      · go_light
        obtain ⟨q0, q1, q2, q11, -⟩ := hq
        go_simp
        try with_reducible rfl
        done
      try simp only [Act.put, List.setIfInBounds_toArray, List.set_cons_zero, List.set_cons_succ]
    iterate 4
      refine qSkip (by kernel_rfl) ?_
      try simp only [Act.put, List.setIfInBounds_toArray, List.set_cons_zero, List.set_cons_succ]
    iterate 1
      refine qTake (by kernel_rfl) ?_
      apply Exists.intro
      refine ⟨fun wq hq => ?_, ?_⟩
      · go_light
        obtain ⟨q0, q1, q2, q11, -⟩ := hq
        go_simp
        try with_reducible rfl
        done
      try simp only [Act.put, List.setIfInBounds_toArray, List.set_cons_zero, List.set_cons_succ]
    refine qNil ?_
    rintro w3 ⟨-, -, -, -, hg3⟩
    have HG3 := Lib.hid (HG.out.trans hg3)
    clear hg3
    go_wp2_with fail
    go_ret
    exact ⟨by rw [HF.out]; rfl, HG3.out⟩
  have d8 : decide (8 ≤ og) = false := decide_eq_false h8
  by_cases h1 : sq < 1
  case pos =>
    have d1 : decide (sq < 1) = true := decide_eq_true h1
    have d1' : decide ((sq : Int) < 1) = true := decide_eq_true (by omega)
    have d1'' : decide (sq = 0) = true := decide_eq_true (by omega)
    have z1 : sq = 0 := by omega
    have HF := Lib.hid (show checkN t = 80 from check_no (fun h => by have := h.1.2.2.1; rw [← HSQ.out] at this; omega))
    go_enter Tryz.func44, Tryz.ntmps44
    go_upto_region 1 with (fail)
    rw [← hW]
    clear hW
    refine qRegion (fun w' => w'.cell? ⟨w.heap.size, 0, none⟩ = some (.int .i64 og) ∧ w'.cell? ⟨w.heap.size, 1, none⟩ = some (.int .u64 (sq : Int)) ∧ w'.cell? ⟨w.heap.size, 2, none⟩ = some (.int .u64 (st : Int)) ∧ w'.cell? ⟨w.heap.size, 11, none⟩ = some (.slice A n c) ∧ Gr W w') (by kernel_rfl) (by kernel_rfl) HB.out ?_
    iterate 14
      refine qTake (by kernel_rfl) ?_
      apply Exists.intro
      refine ⟨fun wq hq => ?_, ?_⟩
      · go_light
        obtain ⟨q0, q1, q2, q11, -⟩ := hq
        go_simp
        try with_reducible rfl
        done
      try simp only [Act.put, List.setIfInBounds_toArray, List.set_cons_zero, List.set_cons_succ]
    iterate 3
      refine qSkip (by kernel_rfl) ?_
      try simp only [Act.put, List.setIfInBounds_toArray, List.set_cons_zero, List.set_cons_succ]
    iterate 2
      refine qTake (by kernel_rfl) ?_
      apply Exists.intro
      refine ⟨fun wq hq => ?_, ?_⟩
      · go_light
        obtain ⟨q0, q1, q2, q11, -⟩ := hq
        go_simp
        try with_reducible rfl
        done
      try simp only [Act.put, List.setIfInBounds_toArray, List.set_cons_zero, List.set_cons_succ]
    iterate 9
      refine qSkip (by kernel_rfl) ?_
      try simp only [Act.put, List.setIfInBounds_toArray, List.set_cons_zero, List.set_cons_succ]
    iterate 2
      refine qTake (by kernel_rfl) ?_
      apply Exists.intro
      refine ⟨fun wq hq => ?_, ?_⟩
      · go_light
        obtain ⟨q0, q1, q2, q11, -⟩ := hq
        go_simp
        try with_reducible rfl
        done
      try simp only [Act.put, List.setIfInBounds_toArray, List.set_cons_zero, List.set_cons_succ]
    iterate 4
      refine qSkip (by kernel_rfl) ?_
      try simp only [Act.put, List.setIfInBounds_toArray, List.set_cons_zero, List.set_cons_succ]
    iterate 2
      refine qTake (by kernel_rfl) ?_
      apply Exists.intro
      refine ⟨fun wq hq => ?_, ?_⟩
      · go_light
        obtain ⟨q0, q1, q2, q11, -⟩ := hq
        go_simp
        try with_reducible rfl
        done
      try simp only [Act.put, List.setIfInBounds_toArray, List.set_cons_zero, List.set_cons_succ]
    iterate 4
      refine qSkip (by kernel_rfl) ?_
      try simp only [Act.put, List.setIfInBounds_toArray, List.set_cons_zero, List.set_cons_succ]
    iterate 1
      refine qTake (by kernel_rfl) ?_
      apply Exists.intro
      refine ⟨fun wq hq => ?_, ?_⟩
      · go_light
        obtain ⟨q0, q1, q2, q11, -⟩ := hq
        go_simp
        try with_reducible rfl
        done
      try simp only [Act.put, List.setIfInBounds_toArray, List.set_cons_zero, List.set_cons_succ]
    refine qNil ?_
    rintro w3 ⟨-, -, -, -, hg3⟩
    have HG3 := Lib.hid (HG.out.trans hg3)
    clear hg3
    go_wp2_with fail
    go_ret
    exact ⟨by rw [HF.out]; rfl, HG3.out⟩
  have d1 : decide (sq < 1) = false := decide_eq_false h1
  have d1' : decide ((sq : Int) < 1) = false := decide_eq_false (by omega)
  by_cases h2 : st < 1
  case pos =>
    have d2 : decide (st < 1) = true := decide_eq_true h2
    have d2' : decide ((st : Int) < 1) = true := decide_eq_true (by omega)
    have HF := Lib.hid (show checkN t = 80 from check_no (fun h => by have := h.1.2.2.2.1; rw [← HST.out] at this; omega))
    go_enter Tryz.func44, Tryz.ntmps44
    go_upto_region 1 with (fail)
    rw [← hW]
    clear hW
    refine qRegion (fun w' => w'.cell? ⟨w.heap.size, 0, none⟩ = some (.int .i64 og) ∧ w'.cell? ⟨w.heap.size, 1, none⟩ = some (.int .u64 (sq : Int)) ∧ w'.cell? ⟨w.heap.size, 2, none⟩ = some (.int .u64 (st : Int)) ∧ w'.cell? ⟨w.heap.size, 11, none⟩ = some (.slice A n c) ∧ Gr W w') (by kernel_rfl) (by kernel_rfl) HB.out ?_
    iterate 19
      refine qTake (by kernel_rfl) ?_
      apply Exists.intro
      refine ⟨fun wq hq => ?_, ?_⟩
      · go_light
        obtain ⟨q0, q1, q2, q11, -⟩ := hq
        go_simp
        try with_reducible rfl
        done
      try simp only [Act.put, List.setIfInBounds_toArray, List.set_cons_zero, List.set_cons_succ]
    iterate 9
      refine qSkip (by kernel_rfl) ?_
      try simp only [Act.put, List.setIfInBounds_toArray, List.set_cons_zero, List.set_cons_succ]
    iterate 2
      refine qTake (by kernel_rfl) ?_
      apply Exists.intro
      refine ⟨fun wq hq => ?_, ?_⟩
      · go_light
        obtain ⟨q0, q1, q2, q11, -⟩ := hq
        go_simp
        try with_reducible rfl
        done
      try simp only [Act.put, List.setIfInBounds_toArray, List.set_cons_zero, List.set_cons_succ]
    iterate 4
      refine qSkip (by kernel_rfl) ?_
      try simp only [Act.put, List.setIfInBounds_toArray, List.set_cons_zero, List.set_cons_succ]
    iterate 2
      refine qTake (by kernel_rfl) ?_
      apply Exists.intro
      refine ⟨fun wq hq => ?_, ?_⟩
      · go_light
        obtain ⟨q0, q1, q2, q11, -⟩ := hq
        go_simp
        try with_reducible rfl
        done
      try simp only [Act.put, List.setIfInBounds_toArray, List.set_cons_zero, List.set_cons_succ]
    iterate 4
      refine qSkip (by kernel_rfl) ?_
      try simp only [Act.put, List.setIfInBounds_toArray, List.set_cons_zero, List.set_cons_succ]
    iterate 1
      refine qTake (by kernel_rfl) ?_
      apply Exists.intro
      refine ⟨fun wq hq => ?_, ?_⟩
      · go_light
        obtain ⟨q0, q1, q2, q11, -⟩ := hq
        go_simp
        try with_reducible rfl
        done
      try simp only [Act.put, List.setIfInBounds_toArray, List.set_cons_zero, List.set_cons_succ]
    refine qNil ?_
    rintro w3 ⟨-, -, -, -, hg3⟩
    have HG3 := Lib.hid (HG.out.trans hg3)
    clear hg3
    go_wp2_with fail
    go_ret
    exact ⟨by rw [HF.out]; rfl, HG3.out⟩
  have d2 : decide (st < 1) = false := decide_eq_false h2
  have d2' : decide ((st : Int) < 1) = false := decide_eq_false (by omega)
  have h8n : og.toNat < 8 := by omega
  obtain ⟨dp, hdp⟩ : ∃ x, x = t.deps og.toNat := ⟨_, rfl⟩
  have HDP : Hid (dp = t.deps t.origin.toNat) := Lib.hid (by rw [hdp, HOG.out])
  have HB2 : Hid (W.drew.cell? ⟨w.heap.size, 0, none⟩ = some (.int .i64 og) ∧ W.drew.cell? ⟨w.heap.size, 1, none⟩ = some (.int .u64 (sq : Int)) ∧ W.drew.cell? ⟨w.heap.size, 2, none⟩ = some (.int .u64 (st : Int)) ∧ W.drew.cell? ⟨w.heap.size, 11, none⟩ = some (.slice A n c) ∧ W.drew.cell? ⟨w.heap.size, 3 + og.toNat, none⟩ = some (.int .u64 (dp : Int)) ∧ Gr W W.drew) := Lib.hid ⟨HB.out.1, HB.out.2.1, HB.out.2.2.1, HB.out.2.2.2.1, by rw [hdp]; exact xfix_dep (HX.out.gr (Gr.refl W).drew) h8n, HB.out.2.2.2.2⟩
  obtain ⟨s1, hs1⟩ : ∃ x, x = sq - 1 := ⟨_, rfl⟩
  have hsub : IntKind.u64.wrap ((sq : Int) - 1) = (s1 : Int) := by simp [IntKind.wrap, IntKind.bits, IntKind.signed]; omega
  have HS1 : Hid (s1 = t.seq - 1) := Lib.hid (by rw [hs1, HSQ.out])
  have ho0 : 0 ≤ og := by omega
  have ho8 : og < 8 := by omega
  clear hdp hs1
  by_cases h3 : dp = s1
  case neg =>
    have d3 : ((dp : Int) != (s1 : Int)) = true := by rw [bne_iff_ne]; omega
    have HF := Lib.hid (show checkN t = 80 from check_no (fun h => by have := h.1.2.2.2.2; rw [← HDP.out, ← HS1.out] at this; exact h3 this))
    go_enter Tryz.func44, Tryz.ntmps44
    go_upto_region 1 with (fail)
    rw [← hW]
    clear hW
    refine qRegion (fun w' => w'.cell? ⟨w.heap.size, 0, none⟩ = some (.int .i64 og) ∧ w'.cell? ⟨w.heap.size, 1, none⟩ = some (.int .u64 (sq : Int)) ∧ w'.cell? ⟨w.heap.size, 2, none⟩ = some (.int .u64 (st : Int)) ∧ w'.cell? ⟨w.heap.size, 11, none⟩ = some (.slice A n c) ∧ w'.cell? ⟨w.heap.size, 3 + og.toNat, none⟩ = some (.int .u64 (dp : Int)) ∧ Gr W w') (by kernel_rfl) (by kernel_rfl) HB2.out ?_
    iterate 30
      refine qTake (by kernel_rfl) ?_
      apply Exists.intro
      refine ⟨fun wq hq => ?_, ?_⟩
      · go_light
        obtain ⟨q0, q1, q2, q11, q3, -⟩ := hq
        go_simp
        try with_reducible rfl
        done
      try simp only [Act.put, List.setIfInBounds_toArray, List.set_cons_zero, List.set_cons_succ]
    iterate 4
      refine qSkip (by kernel_rfl) ?_
      try simp only [Act.put, List.setIfInBounds_toArray, List.set_cons_zero, List.set_cons_succ]
    iterate 2
      refine qTake (by kernel_rfl) ?_
      apply Exists.intro
      refine ⟨fun wq hq => ?_, ?_⟩
      · go_light
        obtain ⟨q0, q1, q2, q11, q3, -⟩ := hq
        go_simp
        try with_reducible rfl
        done
      try simp only [Act.put, List.setIfInBounds_toArray, List.set_cons_zero, List.set_cons_succ]
    iterate 4
      refine qSkip (by kernel_rfl) ?_
      try simp only [Act.put, List.setIfInBounds_toArray, List.set_cons_zero, List.set_cons_succ]
    iterate 1
      refine qTake (by kernel_rfl) ?_
      apply Exists.intro
      refine ⟨fun wq hq => ?_, ?_⟩
      · go_light
        obtain ⟨q0, q1, q2, q11, q3, -⟩ := hq
        go_simp
        try with_reducible rfl
        done
      try simp only [Act.put, List.setIfInBounds_toArray, List.set_cons_zero, List.set_cons_succ]
    refine qNil ?_
    rintro w3 ⟨-, -, -, -, -, hg3⟩
    have HG3 := Lib.hid (HG.out.trans hg3)
    clear hg3
    go_wp2_with fail
    go_ret
    exact ⟨by rw [HF.out]; rfl, HG3.out⟩
  have d3 : ((dp : Int) != (s1 : Int)) = false := by rw [h3]; simp
  have H3 := Lib.hid h3
  clear h3
  by_cases h4 : n < 1
  case pos =>
    have d4 : decide (n < 1) = true := decide_eq_true h4
    have d4' : decide ((n : Int) < 1) = true := decide_eq_true (by omega)
    have HF := Lib.hid (show checkN t = 80 from check_no (fun h => by have := h.2.1; rw [← HN.out] at this; omega))
    go_enter Tryz.func44, Tryz.ntmps44
    go_upto_region 1 with (fail)
    rw [← hW]
    clear hW
    refine qRegion (fun w' => w'.cell? ⟨w.heap.size, 0, none⟩ = some (.int .i64 og) ∧ w'.cell? ⟨w.heap.size, 1, none⟩ = some (.int .u64 (sq : Int)) ∧ w'.cell? ⟨w.heap.size, 2, none⟩ = some (.int .u64 (st : Int)) ∧ w'.cell? ⟨w.heap.size, 11, none⟩ = some (.slice A n c) ∧ w'.cell? ⟨w.heap.size, 3 + og.toNat, none⟩ = some (.int .u64 (dp : Int)) ∧ Gr W w') (by kernel_rfl) (by kernel_rfl) HB2.out ?_
    iterate 36
      refine qTake (by kernel_rfl) ?_
      apply Exists.intro
      refine ⟨fun wq hq => ?_, ?_⟩
      · go_light
        obtain ⟨q0, q1, q2, q11, q3, -⟩ := hq
        go_simp
        try with_reducible rfl
        done
      try simp only [Act.put, List.setIfInBounds_toArray, List.set_cons_zero, List.set_cons_succ]
    iterate 4
      refine qSkip (by kernel_rfl) ?_
      try simp only [Act.put, List.setIfInBounds_toArray, List.set_cons_zero, List.set_cons_succ]
    iterate 1
      refine qTake (by kernel_rfl) ?_
      apply Exists.intro
      refine ⟨fun wq hq => ?_, ?_⟩
      · go_light
        obtain ⟨q0, q1, q2, q11, q3, -⟩ := hq
        go_simp
        try with_reducible rfl
        done
      try simp only [Act.put, List.setIfInBounds_toArray, List.set_cons_zero, List.set_cons_succ]
    refine qNil ?_
    rintro w3 ⟨-, -, -, -, -, hg3⟩
    have HG3 := Lib.hid (HG.out.trans hg3)
    clear hg3
    go_wp2_with fail
    go_ret
    exact ⟨by rw [HF.out]; rfl, HG3.out⟩
  have d4 : decide (n < 1) = false := decide_eq_false h4
  have d4' : decide ((n : Int) < 1) = false := decide_eq_false (by omega)
  by_cases h5 : 8 < n
  case pos =>
    have d5 : decide (8 < n) = true := decide_eq_true h5
    have d5' : decide ((8 : Int) < (n : Int)) = true := decide_eq_true (by omega)
    have HF := Lib.hid (show checkN t = 80 from check_no (fun h => by have := h.2.2.1; rw [← HN.out] at this; omega))
    go_enter Tryz.func44, Tryz.ntmps44
    go_upto_region 1 with (fail)
    rw [← hW]
    clear hW
    refine qRegion (fun w' => w'.cell? ⟨w.heap.size, 0, none⟩ = some (.int .i64 og) ∧ w'.cell? ⟨w.heap.size, 1, none⟩ = some (.int .u64 (sq : Int)) ∧ w'.cell? ⟨w.heap.size, 2, none⟩ = some (.int .u64 (st : Int)) ∧ w'.cell? ⟨w.heap.size, 11, none⟩ = some (.slice A n c) ∧ w'.cell? ⟨w.heap.size, 3 + og.toNat, none⟩ = some (.int .u64 (dp : Int)) ∧ Gr W w') (by kernel_rfl) (by kernel_rfl) HB2.out ?_
    iterate 41
      refine qTake (by kernel_rfl) ?_
      apply Exists.intro
      refine ⟨fun wq hq => ?_, ?_⟩
      · go_light
        obtain ⟨q0, q1, q2, q11, q3, -⟩ := hq
        go_simp
        try with_reducible rfl
        done
      try simp only [Act.put, List.setIfInBounds_toArray, List.set_cons_zero, List.set_cons_succ]
    refine qNil ?_
    rintro w3 ⟨-, -, -, -, -, hg3⟩
    have HG3 := Lib.hid (HG.out.trans hg3)
    clear hg3
    go_wp2_with fail
    go_ret
    exact ⟨by rw [HF.out]; rfl, HG3.out⟩
  have d5 : decide (8 < n) = false := decide_eq_false h5
  have d5' : decide ((8 : Int) < (n : Int)) = false := decide_eq_false (by omega)
  have HOK : Hid (okHead t ∧ 1 ≤ t.ops.length ∧ t.ops.length ≤ 8) := Lib.hid ⟨⟨by rw [← HOG.out]; omega, by rw [← HOG.out]; omega, by rw [← HSQ.out]; omega, by rw [← HST.out]; omega, by rw [← HDP.out, ← HS1.out]; exact H3.out⟩, by rw [← HN.out]; omega, by rw [← HN.out]; omega⟩
  go_enter Tryz.func44, Tryz.ntmps44
  go_upto_region 1 with (fail)
  rw [← hW]
  clear hW
  refine qRegion (fun w' => w'.cell? ⟨w.heap.size, 0, none⟩ = some (.int .i64 og) ∧ w'.cell? ⟨w.heap.size, 1, none⟩ = some (.int .u64 (sq : Int)) ∧ w'.cell? ⟨w.heap.size, 2, none⟩ = some (.int .u64 (st : Int)) ∧ w'.cell? ⟨w.heap.size, 11, none⟩ = some (.slice A n c) ∧ w'.cell? ⟨w.heap.size, 3 + og.toNat, none⟩ = some (.int .u64 (dp : Int)) ∧ Gr W w') (by kernel_rfl) (by kernel_rfl) HB2.out ?_
  iterate 41
    refine qTake (by kernel_rfl) ?_
    apply Exists.intro
    refine ⟨fun wq hq => ?_, ?_⟩
    · go_light
      obtain ⟨q0, q1, q2, q11, q3, -⟩ := hq
      go_simp
      try with_reducible rfl
      done
    try simp only [Act.put, List.setIfInBounds_toArray, List.set_cons_zero, List.set_cons_succ]
  refine qNil ?_
  rintro w3 ⟨-, -, -, -, -, hg3⟩
  have HG3 := Lib.hid hg3
  clear hg3
  clear d0 d8 d1 d1' d2 d2' d3 d4 d4' d5 d5' hsub h0 h8 h1 h2 h4 h5
  go_wp2_with fail
  go_loopw [3] (fun i wr => ∃ k : Nat, k ≤ n ∧ i = .int .i64 k ∧ Hid (∀ j (hj : j < t.ops.length), j < k → okOp t.ops[j] t.origin) ∧ Gr W wr) (fun i _ => n - (intOf i).toNat)
  case atStart => exact ⟨0, Nat.zero_le _, rfl, Lib.hid (fun j _ hj => absurd hj (Nat.not_lt_zero _)), HG3.out⟩
  case round =>
    obtain ⟨k, hk, rfl, hall, hgr⟩ := hrel
    rename World => wr
    have hb0 : wr.cell? ⟨w.heap.size, 0, none⟩ = some (.int .i64 og) := by rw [HOG.out]; exact hgr.cell HX.out.1
    have hb11 : wr.cell? ⟨w.heap.size, 11, none⟩ = some (.slice A n c) := hgr.cell HX.out.2.2.2.2.2.2.2.2.2.2.2
    by_cases hlt : k < n
    · have hkA : k < t.ops.length := by rw [← HN.out]; exact hlt
      obtain ⟨b, off, rfl, ha⟩ := HOP.out k hkA
      obtain ⟨o, ho⟩ : ∃ f, f = t.ops[k] := ⟨_, rfl⟩
      rw [← ho] at ha
      have HC := Lib.hid (fun w2 => rop8_any o og (by rw [ho]; exact HKS.out _ (List.getElem_mem hkA)) w2)
      have HA : Hid (TCell wr b (off + k * 4) o) := Lib.hid ((ha.gr HG.out).gr hgr)
      obtain ⟨r, hr⟩ : ∃ r, r = opB o og := ⟨_, rfl⟩
      rw [← hr] at HC
      unfold tovs at HC
      have HR := Lib.hid hr
      have HGR := Lib.hid hgr
      have HO := Lib.hid ho
      have HB0 := Lib.hid hb0
      have HB11 := Lib.hid hb11
      have hk0 : (0 : Int) ≤ (k : Int) := by omega
      have hkn : (k : Int) < (n : Int) := by omega
      clear ha hr hgr ho hb0
      go_upto_region 6 with (fail)
      clear hb11
      refine qRegion (fun w' => w'.cell? ⟨w.heap.size, 0, none⟩ = some (.int .i64 og) ∧ w'.cell? ⟨w.heap.size, 11, none⟩ = some (.slice (some ⟨b, off, none⟩) n c) ∧ TCell w' b (off + k * 4) o ∧ Gr W w') (by kernel_rfl) (by kernel_rfl) ⟨(Gr.refl _).drew.cell HB0.out, (Gr.refl _).drew.cell HB11.out, HA.out.gr (Gr.refl _).drew, HGR.out.drew⟩ ?_
      iterate 7
        refine qTake (by kernel_rfl) ?_
        apply Exists.intro
        refine ⟨fun wq hq => ?_, ?_⟩
        · go_light
          obtain ⟨e0, e1, ⟨e2, e3, e4, e5⟩, -⟩ := hq
          go_simp
          try with_reducible rfl
          done
        try simp only [Act.put, List.setIfInBounds_toArray, List.set_cons_zero, List.set_cons_succ]
      refine qCall (by kernel_rfl) ?_
      apply Exists.intro
      refine ⟨?_, ?_⟩
      · apply Exists.intro
        apply Exists.intro
        refine ⟨fun wq => ?_, fun wq hq => ?_⟩
        · go_light
          go_simp
          exact ⟨rfl, rfl⟩
        · exact (HC.out wq).mono fun e w'' ⟨he, hg⟩ => ⟨he, hg.cell hq.1, hg.cell hq.2.1, hq.2.2.1.gr hg, hq.2.2.2.trans hg⟩
      try simp only [Act.put, List.setIfInBounds_toArray, List.set_cons_zero, List.set_cons_succ]
      iterate 1
        refine qTake (by kernel_rfl) ?_
        apply Exists.intro
        refine ⟨fun wq hq => ?_, ?_⟩
        · go_light
          obtain ⟨e0, e1, ⟨e2, e3, e4, e5⟩, -⟩ := hq
          go_simp
          try with_reducible rfl
          done
        try simp only [Act.put, List.setIfInBounds_toArray, List.set_cons_zero, List.set_cons_succ]
      refine qNil ?_
      rintro w4 ⟨-, -, -, hg4⟩
      have HG4 := Lib.hid hg4
      clear hg4
      rcases r with _ | _
      · have HF := Lib.hid (show checkN t = 80 from check_no (fun h => opB_no HR.out.symm (by rw [HO.out, HOG.out]; exact h.2.2.2 _ (List.getElem_mem hkA))))
        go_wp2_with fail
        go_ret
        exact ⟨by rw [HF.out]; rfl, HG.out.trans HG4.out⟩
      · have HAL : Hid (∀ j (hj : j < t.ops.length), j < k + 1 → okOp t.ops[j] t.origin) := Lib.hid fun j hj hjk => by
          by_cases q : j = k
          · subst q; rw [← HO.out, ← HOG.out]; exact opB_yes HR.out.symm
          · exact hall.out j hj (by omega)
        go_wp2_with fail
        go_roundw
        case measure => simp [intOf]; omega
        case rel => exact ⟨k + 1, by omega, by go_num, HAL, HG4.out⟩
    · have HF := Lib.hid (show checkN t = 0 from check_yes ⟨HOK.out.1, HOK.out.2.1, HOK.out.2.2, fun o ho => by
        obtain ⟨j, hj, rfl⟩ := List.mem_iff_getElem.1 ho
        exact hall.out j hj (by rw [← HN.out] at hj; omega)⟩)
      have HGR := Lib.hid hgr
      have hkn : ¬ ((k : Int) < (n : Int)) := by omega
      clear hgr hb0
      go_wp2_with fail
      go_ret
      exact ⟨by rw [HF.out]; rfl, HG.out.trans HGR.out⟩
end Go.Proofs.YtnjmgknicffcbaaGreatDoor
