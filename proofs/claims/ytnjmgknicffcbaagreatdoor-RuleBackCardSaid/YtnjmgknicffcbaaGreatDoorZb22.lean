/- Walks: the program's Stamp and behind. -/
import Derived.Test.YtnjmgknicffcbaaGreatDoorZb21
namespace Go.Proofs.YtnjmgknicffcbaaGreatDoor
open Go.RowKit Go.Joins

theorem boxesLV (u : Nat → S3) (v : Nat → Nat) (w : World) : ∃ W, W = (w.alloc (.cells (lcells u) 25)).alloc (.cells (vcells v) 28) ∧ Gr w W ∧ W.heap.size = w.heap.size + 2 ∧
    LBox W w.heap.size u ∧ VBox W (w.heap.size + 1) v := by
  refine ⟨_, rfl, ((Gr.refl w).alloc _).alloc _, by simp, ⟨?_⟩, ⟨?_⟩⟩
  all_goals (simp only [World.alloc, Array.getElem?_push, Array.size_push]; simp)
theorem LV.cell {w : World} {u : Nat → S3} {l : LG} (h : LV w u l) {i j : Nat} (hi : i < 8) (hj : j < (l i).length) : ∃ b off, (u i).a = some ⟨b, off, none⟩ ∧ XCell w b (off + j * 12) (l i)[j] := by
  obtain ⟨A, c, hv, h1, h2, h3⟩ := h i hi
  injection hv with e1 e2 e3
  obtain ⟨b, off, ha, hc⟩ := h3 j hj
  exact ⟨b, off, by rw [e1, ha], hc⟩
theorem stampTo_skip {l : LG} {v : Nat → Nat} {k : Nat} (h : v k = 0 ∨ (l k).length < v k) : stampTo l v (k + 1) = stampTo l v k := by
  show max _ _ = _
  have : lastS l v k = 0 := by
    unfold lastS
    rcases h with h | h
    · rw [if_pos h]
    · rw [if_neg (by omega), List.getElem?_eq_none (by omega)]
  rw [this]
  omega
theorem stampTo_take {l : LG} {v : Nat → Nat} {k d : Nat} (hv : v k = d + 1) (h : d < (l k).length) : stampTo l v (k + 1) = max (stampTo l v k) ((l k)[d]).stamp := by
  show max _ _ = _
  rw [lastS_at hv (List.getElem?_eq_getElem h)]

set_option maxRecDepth 100000 in
set_option maxHeartbeats 2000000 in
theorem stamp_any (u : Nat → S3) (l : LG) (v : Nat → Nat) (w : World) (h : LV w u l) :
    Calls Tryz.prog 79 #[.agg (lcells u), .agg (vcells v)] w fun e w' => e = .returned (.int .u64 (stampV l v : Int)) ∧ Gr w w' := by
  obtain ⟨W, hW, hg, hsz, hL, hV⟩ := boxesLV u v w
  have HV := Lib.hid hV
  have HG := Lib.hid hg
  have HX := Lib.hid (h.gr hg)
  obtain ⟨l0, l1, l2, l3, l4, l5, l6, l7⟩ := hL.all
  clear hL hV hg hsz h
  go_enter Tryz.func79, Tryz.ntmps79
  go_upto_region 1 with (fail)
  rw [← hW]
  clear hW
  go_wp2_with fail
  go_loopw [5, 9] (fun s i wr => ∃ k : Nat, k ≤ 8 ∧ i = .int .i64 k ∧ s = .int .u64 (stampTo l v k : Int) ∧ wr = W) (fun _ i _ => 8 - (intOf i).toNat)
  case atStart => exact ⟨0, by decide, rfl, rfl, rfl⟩
  case round =>
    clear l0 l1 l2 l3 l4 l5 l6 l7
    obtain ⟨k, hk, rfl, rfl, rfl⟩ := hrel
    by_cases hlt : k < 8
    · have hk0 : (0 : Int) ≤ (k : Int) := Int.natCast_nonneg _
      have hk8 : (k : Int) < 8 := by omega
      have hc := HV.out.at hlt
      have hn := HX.out.len hlt
      have hle := HX.out.le hlt
      have hw := u64_len hle
      have hix := fun W => run_index_logs u hlt W
      by_cases h0 : v k = 0 ∨ (l k).length < v k
      · have HS := Lib.hid (stampTo_skip (l := l) h0)
        go_wp2_with fail
        all_goals first | (exfalso; omega) | skip
        all_goals
          go_roundw
          case measure => simp [intOf]; omega
          case rel => exact ⟨k + 1, by omega, by go_num, by rw [HS.out], trivial⟩
      · obtain ⟨d, hd⟩ : ∃ d, v k = d + 1 := ⟨v k - 1, by omega⟩
        have hdl : d < (l k).length := by omega
        obtain ⟨b, off, ha, xv, hx0, x0, x1, x2, -⟩ := HX.out.cell hlt hdl
        have HS := Lib.hid (stampTo_take hd hdl)
        have hv1 : (1 : Int) ≤ ((v k : Nat) : Int) := by omega
        have hv2 : v k ≤ (l k).length := by omega
        have hsub : IntKind.u64.wrap ((v k : Int) - 1) = (d : Int) := by simp [IntKind.wrap, IntKind.bits, IntKind.signed]; omega
        have hd0 : (0 : Int) ≤ (d : Int) := by omega
        have hdn : (d : Int) < ((l k).length : Int) := by omega
        clear h0 hx0
        have HD := Lib.hid hd
        clear hd
        go_wp2_with fail
        go_roundw
        case measure => simp [intOf]; omega
        case rel => exact ⟨k + 1, by omega, by go_num, by rw [HS.out]; exact congrArg (Value.int .u64) (max_if _ _), trivial⟩
    · obtain rfl : k = 8 := by omega
      go_wp2_with fail
      go_ret
      exact ⟨rfl, HG.out⟩

theorem behind_yes {l : LG} {t : TX} (h : leqB t.deps (sizeV l) = false) : behindE l t = 90 := by unfold behindE; rw [h]; rfl
theorem behind_old {l : LG} {t : TX} (h : leqB t.deps (sizeV l) = true) (h2 : t.stamp ≤ stampV l t.deps) : behindE l t = 80 := by unfold behindE; rw [if_pos h, if_pos h2]
theorem behind_ok {l : LG} {t : TX} (h : leqB t.deps (sizeV l) = true) (h2 : ¬ t.stamp ≤ stampV l t.deps) : behindE l t = 0 := by unfold behindE; rw [if_pos h, if_neg h2]
/-- The eight cells of logs lie in this box. -/
def LC (w : World) (b : Nat) (u : Nat → S3) : Prop := w.cell? ⟨b, 0, none⟩ = some (.slice (u 0).a (u 0).n (u 0).c) ∧ w.cell? ⟨b, 1, none⟩ = some (.slice (u 1).a (u 1).n (u 1).c) ∧ w.cell? ⟨b, 2, none⟩ = some (.slice (u 2).a (u 2).n (u 2).c) ∧ w.cell? ⟨b, 3, none⟩ = some (.slice (u 3).a (u 3).n (u 3).c) ∧ w.cell? ⟨b, 4, none⟩ = some (.slice (u 4).a (u 4).n (u 4).c) ∧ w.cell? ⟨b, 5, none⟩ = some (.slice (u 5).a (u 5).n (u 5).c) ∧ w.cell? ⟨b, 6, none⟩ = some (.slice (u 6).a (u 6).n (u 6).c) ∧ w.cell? ⟨b, 7, none⟩ = some (.slice (u 7).a (u 7).n (u 7).c)
theorem LC.gr {w w' : World} {b : Nat} {u : Nat → S3} (h : LC w b u) (g : Gr w w') : LC w' b u := by
  obtain ⟨h0, h1, h2, h3, h4, h5, h6, h7⟩ := h
  exact ⟨g.cell h0, g.cell h1, g.cell h2, g.cell h3, g.cell h4, g.cell h5, g.cell h6, g.cell h7⟩
theorem LBox.lc {w : World} {b : Nat} {u : Nat → S3} (h : LBox w b u) : LC w b u := h.all
/-- The eight cells of a vector lie in this box. -/
def VC (w : World) (b : Nat) (a : Nat → Nat) : Prop := w.cell? ⟨b, 0, none⟩ = some (.int .u64 (a 0 : Int)) ∧ w.cell? ⟨b, 1, none⟩ = some (.int .u64 (a 1 : Int)) ∧ w.cell? ⟨b, 2, none⟩ = some (.int .u64 (a 2 : Int)) ∧ w.cell? ⟨b, 3, none⟩ = some (.int .u64 (a 3 : Int)) ∧ w.cell? ⟨b, 4, none⟩ = some (.int .u64 (a 4 : Int)) ∧ w.cell? ⟨b, 5, none⟩ = some (.int .u64 (a 5 : Int)) ∧ w.cell? ⟨b, 6, none⟩ = some (.int .u64 (a 6 : Int)) ∧ w.cell? ⟨b, 7, none⟩ = some (.int .u64 (a 7 : Int))
theorem VC.gr {w w' : World} {b : Nat} {a : Nat → Nat} (h : VC w b a) (g : Gr w w') : VC w' b a := by
  obtain ⟨h0, h1, h2, h3, h4, h5, h6, h7⟩ := h
  exact ⟨g.cell h0, g.cell h1, g.cell h2, g.cell h3, g.cell h4, g.cell h5, g.cell h6, g.cell h7⟩
theorem VBox.vc {w : World} {b : Nat} {a : Nat → Nat} (h : VBox w b a) : VC w b a := h.all
theorem boxesLT (u : Nat → S3) (t : TX) (v : Value) (w : World) : ∃ W, W = (w.alloc (.cells (lcells u) 25)).alloc (.cells (tcs t v) 47) ∧ Gr w W ∧ W.heap.size = w.heap.size + 2 ∧
    LBox W w.heap.size u ∧ XFix W (w.heap.size + 1) 0 t v := by
  obtain ⟨W, hW, hg, hx⟩ := xbox (w.alloc (.cells (lcells u) 25)) t v
  refine ⟨W, hW, ((Gr.refl w).alloc _).trans hg, by rw [hW]; simp, ?_, ?_⟩
  · exact LBox.gr ⟨heap_alloc _ _ _⟩ hg
  · have e : (w.alloc (.cells (lcells u) 25)).heap.size = w.heap.size + 1 := by simp
    rw [e] at hx
    exact hx
set_option maxRecDepth 100000 in
set_option maxHeartbeats 2000000 in
theorem behind_any (u : Nat → S3) (l : LG) (t : TX) (A : Option Addr) (n c : Nat) (w : World) (h : LV w u l) :
    Calls Tryz.prog 95 #[.agg (lcells u), .agg (tcs t (.slice A n c))] w fun e w' => e = .returned (.int .i64 (behindE l t : Int)) ∧ Gr w w' := by
  obtain ⟨W, hW, hg, hsz, hL, hX⟩ := boxesLT u t (.slice A n c) w
  have HL := Lib.hid hL
  have HX := Lib.hid hX
  have HG := Lib.hid hg
  have HSZ := Lib.hid (fun w1 (g : Gr W w1) => size_any u l w1 ((h.gr hg).gr g))
  have HST := Lib.hid (fun w1 (g : Gr W w1) => stamp_any u l t.deps w1 ((h.gr hg).gr g))
  have HLQ := Lib.hid (fun w1 => leq_any t.deps (sizeV l) w1)
  clear hL hX hg hsz h
  go_enter Tryz.func95, Tryz.ntmps95
  go_upto_region 1 with (fail)
  rw [← hW]
  clear hW
  obtain ⟨r, hr⟩ : ∃ r, r = leqB t.deps (sizeV l) := ⟨_, rfl⟩
  rw [← hr] at HLQ
  have HR0 := Lib.hid hr
  clear hr
  refine qRegion (fun w' => LC w' w.heap.size u ∧ XFix w' (w.heap.size + 1) 0 t (.slice A n c) ∧ Gr W w') (by kernel_rfl) (by kernel_rfl) ⟨HL.out.lc.gr (Gr.refl _).drew, HX.out.gr (Gr.refl _).drew, (Gr.refl _).drew⟩ ?_
  iterate 3
    refine qTake (by kernel_rfl) ?_
    apply Exists.intro
    refine ⟨fun wq hq => ?_, ?_⟩
    · go_light
      obtain ⟨⟨l0, l1, l2, l3, l4, l5, l6, l7⟩, ⟨h0, h1, h2, h3, h4, h5, h6, h7, h8, h9, h10, h11⟩, hg⟩ := hq
      go_simp
      try with_reducible rfl
      done
    try simp only [Act.put, List.setIfInBounds_toArray, List.set_cons_zero, List.set_cons_succ]
  refine qCall (by kernel_rfl) ?_
  apply Exists.intro
  refine ⟨?_, ?_⟩
  · apply Exists.intro
    apply Exists.intro
    refine ⟨fun wq => ?_, fun wq hq => ?_⟩
    · go_light
      go_simp
      exact ⟨rfl, rfl⟩
    · exact (HSZ.out wq hq.2.2).mono fun e w'' ⟨he, hg⟩ => ⟨he, hq.1.gr hg, hq.2.1.gr hg, hq.2.2.trans hg⟩
  try simp only [Act.put, List.setIfInBounds_toArray, List.set_cons_zero, List.set_cons_succ]
  refine qCall (by kernel_rfl) ?_
  apply Exists.intro
  refine ⟨?_, ?_⟩
  · apply Exists.intro
    apply Exists.intro
    refine ⟨fun wq => ?_, fun wq hq => ?_⟩
    · go_light
      go_simp
      exact ⟨rfl, rfl⟩
    · exact (HLQ.out wq).mono fun e w'' ⟨he, hg⟩ => ⟨he, hq.1.gr hg, hq.2.1.gr hg, hq.2.2.trans hg⟩
  try simp only [Act.put, List.setIfInBounds_toArray, List.set_cons_zero, List.set_cons_succ]
  iterate 1
    refine qTake (by kernel_rfl) ?_
    apply Exists.intro
    refine ⟨fun wq hq => ?_, ?_⟩
    · go_light
      obtain ⟨⟨l0, l1, l2, l3, l4, l5, l6, l7⟩, ⟨h0, h1, h2, h3, h4, h5, h6, h7, h8, h9, h10, h11⟩, hg⟩ := hq
      go_simp
      try with_reducible rfl
      done
    try simp only [Act.put, List.setIfInBounds_toArray, List.set_cons_zero, List.set_cons_succ]
  refine qNil ?_
  rintro w3 ⟨hl3, hx3, hg3⟩
  have HG3 := Lib.hid hg3
  have HL3 := Lib.hid hl3
  have HX3 := Lib.hid hx3
  clear hl3 hx3 hg3
  rcases r with _ | _
  · have HF := Lib.hid (behind_yes HR0.out.symm)
    go_wp2_with fail
    go_ret
    exact ⟨by rw [HF.out]; rfl, HG.out.trans HG3.out⟩
  · have HR := Lib.hid HR0.out.symm
    obtain ⟨s, hs⟩ : ∃ s, s = stampV l t.deps := ⟨_, rfl⟩
    rw [← hs] at HST
    have HSS := Lib.hid hs
    clear hs
    go_upto_region 3 with (fail)
    refine qRegion (fun w' => LC w' w.heap.size u ∧ XFix w' (w.heap.size + 1) 0 t (.slice A n c) ∧ Gr W w') (by kernel_rfl) (by kernel_rfl) ⟨HL3.out.gr (Gr.refl _).drew, HX3.out.gr (Gr.refl _).drew, HG3.out.drew⟩ ?_
    iterate 5
      refine qTake (by kernel_rfl) ?_
      apply Exists.intro
      refine ⟨fun wq hq => ?_, ?_⟩
      · go_light
        obtain ⟨⟨l0, l1, l2, l3, l4, l5, l6, l7⟩, ⟨h0, h1, h2, h3, h4, h5, h6, h7, h8, h9, h10, h11⟩, hg⟩ := hq
        go_simp
        try with_reducible rfl
        done
      try simp only [Act.put, List.setIfInBounds_toArray, List.set_cons_zero, List.set_cons_succ]
    refine qCall (by kernel_rfl) ?_
    apply Exists.intro
    refine ⟨?_, ?_⟩
    · apply Exists.intro
      apply Exists.intro
      refine ⟨fun wq => ?_, fun wq hq => ?_⟩
      · go_light
        go_simp
        exact ⟨rfl, rfl⟩
      · exact (HST.out wq hq.2.2).mono fun e w'' ⟨he, hg⟩ => ⟨he, hq.1.gr hg, hq.2.1.gr hg, hq.2.2.trans hg⟩
    try simp only [Act.put, List.setIfInBounds_toArray, List.set_cons_zero, List.set_cons_succ]
    iterate 1
      refine qTake (by kernel_rfl) ?_
      apply Exists.intro
      refine ⟨fun wq hq => ?_, ?_⟩
      · go_light
        obtain ⟨⟨l0, l1, l2, l3, l4, l5, l6, l7⟩, ⟨h0, h1, h2, h3, h4, h5, h6, h7, h8, h9, h10, h11⟩, hg⟩ := hq
        go_simp
        try with_reducible rfl
        done
      try simp only [Act.put, List.setIfInBounds_toArray, List.set_cons_zero, List.set_cons_succ]
    refine qNil ?_
    rintro w4 ⟨hl4, hx4, hg4⟩
    have HG4 := Lib.hid hg4
    clear hl4 hx4 hg4
    by_cases hle : t.stamp ≤ s
    · have HF := Lib.hid (behind_old HR.out (by rw [← HSS.out]; exact hle))
      go_wp2_with fail
      go_ret
      exact ⟨by rw [HF.out]; rfl, HG.out.trans HG4.out⟩
    · have HF := Lib.hid (behind_ok HR.out (by rw [← HSS.out]; exact hle))
      go_wp2_with fail
      go_ret
      exact ⟨by rw [HF.out]; rfl, HG.out.trans HG4.out⟩
end Go.Proofs.YtnjmgknicffcbaaGreatDoor
