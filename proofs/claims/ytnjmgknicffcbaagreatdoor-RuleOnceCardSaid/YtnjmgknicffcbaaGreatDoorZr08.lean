/- Walks: the program's Stamp and behind. Walks: the document's Size, Stamp, Check, Same. Walks: the document's Stamp. -/
import Derived.Test.YtnjmgknicffcbaaGreatDoorZr07
namespace Go.Proofs.YtnjmgknicffcbaaGreatDoor
open Go.RowKit Go.Joins

theorem boxesLV (u : Nat → S3) (v : Nat → Nat) (w : World) : ∃ W, W = (w.alloc (.cells (lcells u) 25)).alloc (.cells (vcells v) 28) ∧ Gr w W ∧ W.heap.size = w.heap.size + 2 ∧
    LBox W w.heap.size u ∧ VBox W (w.heap.size + 1) v := by
  refine ⟨_, rfl, ((Gr.refl w).alloc _).alloc _, by simp, ⟨?_⟩, ⟨?_⟩⟩
  all_goals (simp only [World.alloc, Array.getElem?_push, Array.size_push]; simp)
theorem LV.cell {w : World} {u : Nat → S3} {l : LG} (h : LV w u l) {i j : Nat} (hi : i < 8) (hj : j < (l i).length) : ∃ b off, (u i).a = some ⟨b, off, none⟩ ∧ XCell w b (off + j * 12) (l i)[j] := by
  obtain ⟨A, c, hv, h1, h2, h3⟩ := h i hi
  injection hv with e1 e2 e3
  obtain ⟨b, off, ha, hc⟩ := h3 j hj
  exact ⟨b, off, by rw [e1, ha], hc⟩
theorem stampTo_skip {l : LG} {v : Nat → Nat} {k : Nat} (h : v k = 0 ∨ (l k).length < v k) : stampTo l v (k + 1) = stampTo l v k := by
  show max _ _ = _
  have : lastS l v k = 0 := by
    unfold lastS
    rcases h with h | h
    · rw [if_pos h]
    · rw [if_neg (by omega), List.getElem?_eq_none (by omega)]
  rw [this]
  omega
theorem stampTo_take {l : LG} {v : Nat → Nat} {k d : Nat} (hv : v k = d + 1) (h : d < (l k).length) : stampTo l v (k + 1) = max (stampTo l v k) ((l k)[d]).stamp := by
  show max _ _ = _
  rw [lastS_at hv (List.getElem?_eq_getElem h)]

set_option maxRecDepth 100000 in
set_option maxHeartbeats 2000000 in
theorem stamp_any (u : Nat → S3) (l : LG) (v : Nat → Nat) (w : World) (h : LV w u l) :
    Calls Tryz.prog 79 #[.agg (lcells u), .agg (vcells v)] w fun e w' => e = .returned (.int .u64 (stampV l v : Int)) ∧ Gr w w' := by
  obtain ⟨W, hW, hg, hsz, hL, hV⟩ := boxesLV u v w
  have HV := Lib.hid hV
  have HG := Lib.hid hg
  have HX := Lib.hid (h.gr hg)
  obtain ⟨l0, l1, l2, l3, l4, l5, l6, l7⟩ := hL.all
  clear hL hV hg hsz h
  go_enter Tryz.func79, Tryz.ntmps79
  go_upto_region 1 with (fail)
  rw [← hW]
  clear hW
  go_wp2_with fail
  go_loopw [5, 9] (fun s i wr => ∃ k : Nat, k ≤ 8 ∧ i = .int .i64 k ∧ s = .int .u64 (stampTo l v k : Int) ∧ wr = W) (fun _ i _ => 8 - (intOf i).toNat)
  case atStart => exact ⟨0, by decide, rfl, rfl, rfl⟩
  case round =>
    clear l0 l1 l2 l3 l4 l5 l6 l7
    obtain ⟨k, hk, rfl, rfl, rfl⟩ := hrel
    by_cases hlt : k < 8
    · have hk0 : (0 : Int) ≤ (k : Int) := Int.natCast_nonneg _
      have hk8 : (k : Int) < 8 := by omega
      have hc := HV.out.at hlt
      have hn := HX.out.len hlt
      have hle := HX.out.le hlt
      have hw := u64_len hle
      have hix := fun W => run_index_logs u hlt W
      by_cases h0 : v k = 0 ∨ (l k).length < v k
      · have HS := Lib.hid (stampTo_skip (l := l) h0)
        go_wp2_with fail
        all_goals first | (exfalso; omega) | skip
        all_goals
          go_roundw
          case measure => simp [intOf]; omega
          case rel => exact ⟨k + 1, by omega, by go_num, by rw [HS.out], trivial⟩
      · obtain ⟨d, hd⟩ : ∃ d, v k = d + 1 := ⟨v k - 1, by omega⟩
        have hdl : d < (l k).length := by omega
        obtain ⟨b, off, ha, xv, hx0, x0, x1, x2, -⟩ := HX.out.cell hlt hdl
        have HS := Lib.hid (stampTo_take hd hdl)
        have hv1 : (1 : Int) ≤ ((v k : Nat) : Int) := by omega
        have hv2 : v k ≤ (l k).length := by omega
        have hsub : IntKind.u64.wrap ((v k : Int) - 1) = (d : Int) := by simp [IntKind.wrap, IntKind.bits, IntKind.signed]; omega
        have hd0 : (0 : Int) ≤ (d : Int) := by omega
        have hdn : (d : Int) < ((l k).length : Int) := by omega
        clear h0 hx0
        have HD := Lib.hid hd
        clear hd
        go_wp2_with fail
        go_roundw
        case measure => simp [intOf]; omega
        case rel => exact ⟨k + 1, by omega, by go_num, by rw [HS.out]; exact congrArg (Value.int .u64) (max_if _ _), trivial⟩
    · obtain rfl : k = 8 := by omega
      go_wp2_with fail
      go_ret
      exact ⟨rfl, HG.out⟩

theorem behind_yes {l : LG} {t : TX} (h : leqB t.deps (sizeV l) = false) : behindE l t = 90 := by unfold behindE; rw [h]; rfl
theorem behind_old {l : LG} {t : TX} (h : leqB t.deps (sizeV l) = true) (h2 : t.stamp ≤ stampV l t.deps) : behindE l t = 80 := by unfold behindE; rw [if_pos h, if_pos h2]
theorem behind_ok {l : LG} {t : TX} (h : leqB t.deps (sizeV l) = true) (h2 : ¬ t.stamp ≤ stampV l t.deps) : behindE l t = 0 := by unfold behindE; rw [if_pos h, if_neg h2]
/-- The eight cells of logs lie in this box. -/
def LC (w : World) (b : Nat) (u : Nat → S3) : Prop := w.cell? ⟨b, 0, none⟩ = some (.slice (u 0).a (u 0).n (u 0).c) ∧ w.cell? ⟨b, 1, none⟩ = some (.slice (u 1).a (u 1).n (u 1).c) ∧ w.cell? ⟨b, 2, none⟩ = some (.slice (u 2).a (u 2).n (u 2).c) ∧ w.cell? ⟨b, 3, none⟩ = some (.slice (u 3).a (u 3).n (u 3).c) ∧ w.cell? ⟨b, 4, none⟩ = some (.slice (u 4).a (u 4).n (u 4).c) ∧ w.cell? ⟨b, 5, none⟩ = some (.slice (u 5).a (u 5).n (u 5).c) ∧ w.cell? ⟨b, 6, none⟩ = some (.slice (u 6).a (u 6).n (u 6).c) ∧ w.cell? ⟨b, 7, none⟩ = some (.slice (u 7).a (u 7).n (u 7).c)
theorem LC.gr {w w' : World} {b : Nat} {u : Nat → S3} (h : LC w b u) (g : Gr w w') : LC w' b u := by
  obtain ⟨h0, h1, h2, h3, h4, h5, h6, h7⟩ := h
  exact ⟨g.cell h0, g.cell h1, g.cell h2, g.cell h3, g.cell h4, g.cell h5, g.cell h6, g.cell h7⟩
theorem LBox.lc {w : World} {b : Nat} {u : Nat → S3} (h : LBox w b u) : LC w b u := h.all
/-- The eight cells of a vector lie in this box. -/
def VC (w : World) (b : Nat) (a : Nat → Nat) : Prop := w.cell? ⟨b, 0, none⟩ = some (.int .u64 (a 0 : Int)) ∧ w.cell? ⟨b, 1, none⟩ = some (.int .u64 (a 1 : Int)) ∧ w.cell? ⟨b, 2, none⟩ = some (.int .u64 (a 2 : Int)) ∧ w.cell? ⟨b, 3, none⟩ = some (.int .u64 (a 3 : Int)) ∧ w.cell? ⟨b, 4, none⟩ = some (.int .u64 (a 4 : Int)) ∧ w.cell? ⟨b, 5, none⟩ = some (.int .u64 (a 5 : Int)) ∧ w.cell? ⟨b, 6, none⟩ = some (.int .u64 (a 6 : Int)) ∧ w.cell? ⟨b, 7, none⟩ = some (.int .u64 (a 7 : Int))
theorem VC.gr {w w' : World} {b : Nat} {a : Nat → Nat} (h : VC w b a) (g : Gr w w') : VC w' b a := by
  obtain ⟨h0, h1, h2, h3, h4, h5, h6, h7⟩ := h
  exact ⟨g.cell h0, g.cell h1, g.cell h2, g.cell h3, g.cell h4, g.cell h5, g.cell h6, g.cell h7⟩
theorem VBox.vc {w : World} {b : Nat} {a : Nat → Nat} (h : VBox w b a) : VC w b a := h.all
theorem boxesLT (u : Nat → S3) (t : TX) (v : Value) (w : World) : ∃ W, W = (w.alloc (.cells (lcells u) 25)).alloc (.cells (tcs t v) 47) ∧ Gr w W ∧ W.heap.size = w.heap.size + 2 ∧
    LBox W w.heap.size u ∧ XFix W (w.heap.size + 1) 0 t v := by
  obtain ⟨W, hW, hg, hx⟩ := xbox (w.alloc (.cells (lcells u) 25)) t v
  refine ⟨W, hW, ((Gr.refl w).alloc _).trans hg, by rw [hW]; simp, ?_, ?_⟩
  · exact LBox.gr ⟨heap_alloc _ _ _⟩ hg
  · have e : (w.alloc (.cells (lcells u) 25)).heap.size = w.heap.size + 1 := by simp
    rw [e] at hx
    exact hx
set_option maxRecDepth 100000 in
set_option maxHeartbeats 2000000 in
theorem behind_any (u : Nat → S3) (l : LG) (t : TX) (A : Option Addr) (n c : Nat) (w : World) (h : LV w u l) :
    Calls Tryz.prog 95 #[.agg (lcells u), .agg (tcs t (.slice A n c))] w fun e w' => e = .returned (.int .i64 (behindE l t : Int)) ∧ Gr w w' := by
  obtain ⟨W, hW, hg, hsz, hL, hX⟩ := boxesLT u t (.slice A n c) w
  have HL := Lib.hid hL
  have HX := Lib.hid hX
  have HG := Lib.hid hg
  have HSZ := Lib.hid (fun w1 (g : Gr W w1) => size_any u l w1 ((h.gr hg).gr g))
  have HST := Lib.hid (fun w1 (g : Gr W w1) => stamp_any u l t.deps w1 ((h.gr hg).gr g))
  have HLQ := Lib.hid (fun w1 => leq_any t.deps (sizeV l) w1)
  clear hL hX hg hsz h
  go_enter Tryz.func95, Tryz.ntmps95
  go_upto_region 1 with (fail)
  rw [← hW]
  clear hW
  obtain ⟨r, hr⟩ : ∃ r, r = leqB t.deps (sizeV l) := ⟨_, rfl⟩
  rw [← hr] at HLQ
  have HR0 := Lib.hid hr
  clear hr
  refine qRegion (fun w' => LC w' w.heap.size u ∧ XFix w' (w.heap.size + 1) 0 t (.slice A n c) ∧ Gr W w') (by kernel_rfl) (by kernel_rfl) ⟨HL.out.lc.gr (Gr.refl _).drew, HX.out.gr (Gr.refl _).drew, (Gr.refl _).drew⟩ ?_
  iterate 3
    refine qTake (by kernel_rfl) ?_
    apply Exists.intro
    refine ⟨fun wq hq => ?_, ?_⟩
    · go_light
      obtain ⟨⟨l0, l1, l2, l3, l4, l5, l6, l7⟩, ⟨h0, h1, h2, h3, h4, h5, h6, h7, h8, h9, h10, h11⟩, hg⟩ := hq
      go_simp
      try with_reducible rfl
      done
    try simp only [Act.put, List.setIfInBounds_toArray, List.set_cons_zero, List.set_cons_succ]
  refine qCall (by kernel_rfl) ?_
  apply Exists.intro
  refine ⟨?_, ?_⟩
  · apply Exists.intro
    apply Exists.intro
    refine ⟨fun wq => ?_, fun wq hq => ?_⟩
    · go_light
      go_simp
      exact ⟨rfl, rfl⟩
    · exact (HSZ.out wq hq.2.2).mono fun e w'' ⟨he, hg⟩ => ⟨he, hq.1.gr hg, hq.2.1.gr hg, hq.2.2.trans hg⟩
  try simp only [Act.put, List.setIfInBounds_toArray, List.set_cons_zero, List.set_cons_succ]
  refine qCall (by kernel_rfl) ?_
  apply Exists.intro
  refine ⟨?_, ?_⟩
  · apply Exists.intro
    apply Exists.intro
    refine ⟨fun wq => ?_, fun wq hq => ?_⟩
    · go_light
      go_simp
      exact ⟨rfl, rfl⟩
    · exact (HLQ.out wq).mono fun e w'' ⟨he, hg⟩ => ⟨he, hq.1.gr hg, hq.2.1.gr hg, hq.2.2.trans hg⟩
  try simp only [Act.put, List.setIfInBounds_toArray, List.set_cons_zero, List.set_cons_succ]
  iterate 1
    refine qTake (by kernel_rfl) ?_
    apply Exists.intro
    refine ⟨fun wq hq => ?_, ?_⟩
    · go_light
      obtain ⟨⟨l0, l1, l2, l3, l4, l5, l6, l7⟩, ⟨h0, h1, h2, h3, h4, h5, h6, h7, h8, h9, h10, h11⟩, hg⟩ := hq
      go_simp
      try with_reducible rfl
      done
    try simp only [Act.put, List.setIfInBounds_toArray, List.set_cons_zero, List.set_cons_succ]
  refine qNil ?_
  rintro w3 ⟨hl3, hx3, hg3⟩
  have HG3 := Lib.hid hg3
  have HL3 := Lib.hid hl3
  have HX3 := Lib.hid hx3
  clear hl3 hx3 hg3
  rcases r with _ | _
  · have HF := Lib.hid (behind_yes HR0.out.symm)
    go_wp2_with fail
    go_ret
    exact ⟨by rw [HF.out]; rfl, HG.out.trans HG3.out⟩
  · have HR := Lib.hid HR0.out.symm
    obtain ⟨s, hs⟩ : ∃ s, s = stampV l t.deps := ⟨_, rfl⟩
    rw [← hs] at HST
    have HSS := Lib.hid hs
    clear hs
    go_upto_region 3 with (fail)
    refine qRegion (fun w' => LC w' w.heap.size u ∧ XFix w' (w.heap.size + 1) 0 t (.slice A n c) ∧ Gr W w') (by kernel_rfl) (by kernel_rfl) ⟨HL3.out.gr (Gr.refl _).drew, HX3.out.gr (Gr.refl _).drew, HG3.out.drew⟩ ?_
    iterate 5
      refine qTake (by kernel_rfl) ?_
      apply Exists.intro
      refine ⟨fun wq hq => ?_, ?_⟩
      · go_light
        obtain ⟨⟨l0, l1, l2, l3, l4, l5, l6, l7⟩, ⟨h0, h1, h2, h3, h4, h5, h6, h7, h8, h9, h10, h11⟩, hg⟩ := hq
        go_simp
        try with_reducible rfl
        done
      try simp only [Act.put, List.setIfInBounds_toArray, List.set_cons_zero, List.set_cons_succ]
    refine qCall (by kernel_rfl) ?_
    apply Exists.intro
    refine ⟨?_, ?_⟩
    · apply Exists.intro
      apply Exists.intro
      refine ⟨fun wq => ?_, fun wq hq => ?_⟩
      · go_light
        go_simp
        exact ⟨rfl, rfl⟩
      · exact (HST.out wq hq.2.2).mono fun e w'' ⟨he, hg⟩ => ⟨he, hq.1.gr hg, hq.2.1.gr hg, hq.2.2.trans hg⟩
    try simp only [Act.put, List.setIfInBounds_toArray, List.set_cons_zero, List.set_cons_succ]
    iterate 1
      refine qTake (by kernel_rfl) ?_
      apply Exists.intro
      refine ⟨fun wq hq => ?_, ?_⟩
      · go_light
        obtain ⟨⟨l0, l1, l2, l3, l4, l5, l6, l7⟩, ⟨h0, h1, h2, h3, h4, h5, h6, h7, h8, h9, h10, h11⟩, hg⟩ := hq
        go_simp
        try with_reducible rfl
        done
      try simp only [Act.put, List.setIfInBounds_toArray, List.set_cons_zero, List.set_cons_succ]
    refine qNil ?_
    rintro w4 ⟨hl4, hx4, hg4⟩
    have HG4 := Lib.hid hg4
    clear hl4 hx4 hg4
    by_cases hle : t.stamp ≤ s
    · have HF := Lib.hid (behind_old HR.out (by rw [← HSS.out]; exact hle))
      go_wp2_with fail
      go_ret
      exact ⟨by rw [HF.out]; rfl, HG.out.trans HG4.out⟩
    · have HF := Lib.hid (behind_ok HR.out (by rw [← HSS.out]; exact hle))
      go_wp2_with fail
      go_ret
      exact ⟨by rw [HF.out]; rfl, HG.out.trans HG4.out⟩
end Go.Proofs.YtnjmgknicffcbaaGreatDoor
namespace Go.Proofs.YtnjmgknicffcbaaGreatDoor
open Go.RowKit Go.Joins

set_option maxRecDepth 100000 in
set_option maxHeartbeats 2000000 in
theorem rsize_any (u : Nat → S3) (l : LG) (w : World) (h : LV w u l) :
    Calls Tryz.prog 39 #[.agg (lcells u)] w fun e w' => e = .returned (.agg (vcells (sizeV l))) ∧ Gr w w' := by
  obtain ⟨W, hW, hg, hsz, hL, hR, hV⟩ := boxesSz u w
  have HL := Lib.hid hL
  have HR := Lib.hid hR
  have HV := Lib.hid hV
  have HG := Lib.hid hg
  have HN := Lib.hid (fun k (hk : k < 8) => h.len hk)
  have HLE := Lib.hid (fun k (hk : k < 8) => h.le hk)
  clear hL hR hV hg hsz h
  go_enter Tryz.func39, Tryz.ntmps39
  go_upto_region 2 with (fail)
  rw [← hW]
  clear hW
  go_wp2_with fail
  go_loopw [4] (fun i wr => ∃ k : Nat, k ≤ 8 ∧ i = .int .i64 k ∧ VBox wr (w.heap.size + 1 + 1) (szTo l k) ∧ VBox wr (w.heap.size + 1) (fun _ => 0) ∧ LBox wr w.heap.size u ∧ Gr w wr) (fun i _ => 8 - (intOf i).toNat)
  case atStart => exact ⟨0, by decide, rfl, HV.out, HR.out, HL.out, HG.out⟩
  case round =>
    obtain ⟨k, hk, rfl, hV, hR, hL, hgr⟩ := hrel
    rename World => wr
    by_cases hlt : k < 8
    · have hk0 : (0 : Int) ≤ (k : Int) := Int.natCast_nonneg _
      have hk8 : (k : Int) < 8 := by omega
      have hc := hV.at hlt
      have hl := hL.at hlt
      have hfz : wr.frozen? ⟨w.heap.size + 1 + 1, k, none⟩ = false := unfrozen_of_block hV.box k
      have hw := u64_len (HLE.out k hlt)
      rw [HN.out k hlt] at hl
      have HV2 := Lib.hid hV
      have HR2 := Lib.hid hR
      have HL2 := Lib.hid hL
      have HG2 := Lib.hid hgr
      clear hV hR hL hgr
      go_wp2_with fail
      go_roundw
      case measure => simp [intOf]; omega
      case rel =>
        refine ⟨k + 1, by omega, by go_num, ?_, HR2.out.far (by simp) _, HL2.out.far (by simp only []; omega) _, Gr.setCell HG2.out (by simp; omega) _⟩
        rw [← szTo_next]
        exact HV2.out.set hlt _
    · obtain rfl : k = 8 := by omega
      obtain ⟨s0, s1, s2, s3, s4, s5, s6, s7⟩ := hV.all
      obtain ⟨r0, r1, r2, r3, r4, r5, r6, r7⟩ := hR.zero
      obtain ⟨f0, f1, f2, f3, f4, f5, f6, f7⟩ := hR.fz
      have HG2 := Lib.hid hgr
      clear hV hR hL hgr
      go_wp2_with fail
      exact bodyPost_ret (v := .agg (vcells (szTo l 8))) (by simp [results, Tryz.results39, go_sem, *]) rfl ⟨rfl, by as_aux_lemma => (iterate 8 (with_reducible refine Gr.setCell ?_ (Nat.le_succ _) _)); exact HG2.out⟩
end Go.Proofs.YtnjmgknicffcbaaGreatDoor
namespace Go.Proofs.YtnjmgknicffcbaaGreatDoor
open Go.RowKit Go.Joins

set_option maxRecDepth 100000 in
set_option maxHeartbeats 4000000 in
theorem rstamp_any (u : Nat → S3) (l : LG) (v : Nat → Nat) (w : World) (h : LV w u l) :
    Calls Tryz.prog 66 #[.agg (lcells u), .agg (vcells v)] w fun e w' => e = .returned (.int .u64 (stampV l v : Int)) ∧ Gr w w' := by
  obtain ⟨W, hW, hg, hsz, hL, hV⟩ := boxesLV u v w
  have HV := Lib.hid hV
  have HL := Lib.hid hL
  have HG := Lib.hid hg
  have HX := Lib.hid (h.gr hg)
  clear hL hV hg hsz h
  go_enter Tryz.func66, Tryz.ntmps66
  go_upto_region 1 with (fail)
  rw [← hW]
  clear hW
  go_wp2_with fail
  go_loopw [5, 6] (fun s i wr => ∃ k : Nat, k ≤ 8 ∧ i = .int .i64 k ∧ s = .int .u64 (stampTo l v k : Int) ∧ Gr W wr) (fun _ i _ => 8 - (intOf i).toNat)
  case atStart => exact ⟨0, by decide, rfl, rfl, Gr.refl _⟩
  case round =>
    obtain ⟨k, hk, rfl, rfl, hgr⟩ := hrel
    rename World => wr
    by_cases hlt : k < 8
    · have hk0 : (0 : Int) ≤ (k : Int) := Int.natCast_nonneg _
      have hk8 : (k : Int) < 8 := by omega
      have hcv := (HV.out.gr hgr).at hlt
      have hcl := (HL.out.gr hgr).at hlt
      rw [HX.out.len hlt] at hcl
      have hle := HX.out.le hlt
      have hw := u64_len hle
      obtain ⟨m, hm⟩ : ∃ m, m = v k := ⟨_, rfl⟩
      obtain ⟨n, hn⟩ : ∃ n, n = (l k).length := ⟨_, rfl⟩
      obtain ⟨s, hs⟩ : ∃ s, s = stampTo l v k := ⟨_, rfl⟩
      rw [← hm] at hcv
      rw [← hn] at hcl hle hw
      rw [← hs]
      have HCV := Lib.hid hcv
      have HCL := Lib.hid hcl
      have HM := Lib.hid hm
      have HN := Lib.hid hn
      have HS := Lib.hid hs
      have HGR := Lib.hid hgr
      clear hcv hcl hm hn hs hgr
      rcases Nat.eq_zero_or_pos m with h0 | hpos
      · subst h0
        have HT : Hid (s = stampTo l v (k + 1)) := Lib.hid (by rw [stampTo_skip (Or.inl HM.out.symm)]; exact HS.out)
        go_upto_region 5 with (fail)
        refine qRegion (fun w' => w'.cell? ⟨w.heap.size + 1, k, none⟩ = some (.int .u64 0) ∧ w'.cell? ⟨w.heap.size, k, none⟩ = some (.slice (u k).a n (u k).c) ∧ Gr W w') (by kernel_rfl) (by kernel_rfl) ⟨(Gr.refl _).drew.cell HCV.out, (Gr.refl _).drew.cell HCL.out, HGR.out.drew⟩ ?_
        iterate 5
          refine qTake (by kernel_rfl) ?_
          apply Exists.intro
          refine ⟨fun wq hq => ?_, ?_⟩
          · go_light
            obtain ⟨e0, e1, -⟩ := hq
            go_simp
            try with_reducible rfl
            done
          try simp only [Act.put, List.setIfInBounds_toArray, List.set_cons_zero, List.set_cons_succ]
        iterate 9
          refine qSkip (by kernel_rfl) ?_
          try simp only [Act.put, List.setIfInBounds_toArray, List.set_cons_zero, List.set_cons_succ]
        iterate 2
          refine qTake (by kernel_rfl) ?_
          apply Exists.intro
          refine ⟨fun wq hq => ?_, ?_⟩
          · go_light
            obtain ⟨e0, e1, -⟩ := hq
            go_simp
            try with_reducible rfl
            done
          try simp only [Act.put, List.setIfInBounds_toArray, List.set_cons_zero, List.set_cons_succ]
        iterate 12
          refine qSkip (by kernel_rfl) ?_
          try simp only [Act.put, List.setIfInBounds_toArray, List.set_cons_zero, List.set_cons_succ]
        iterate 1
          refine qTake (by kernel_rfl) ?_
          apply Exists.intro
          refine ⟨fun wq hq => ?_, ?_⟩
          · go_light
            obtain ⟨e0, e1, -⟩ := hq
            go_simp
            try with_reducible rfl
            done
          try simp only [Act.put, List.setIfInBounds_toArray, List.set_cons_zero, List.set_cons_succ]
        refine qNil ?_
        rintro w3 ⟨-, -, hg3⟩
        have HG3 := Lib.hid hg3
        clear hg3
        go_wp2_with fail
        go_roundw
        case measure => simp [intOf]; omega
        case rel => exact ⟨k + 1, by omega, by go_num, by rw [← HT.out], HG3.out⟩
      · have hmp : (0 : Int) < (m : Int) := by omega
        have hmd : decide (0 < m) = true := decide_eq_true hpos
        by_cases hmn : m ≤ n
        · obtain ⟨d, hd⟩ : ∃ d, m = d + 1 := ⟨m - 1, by omega⟩
          have hdl : d < (l k).length := by rw [← HN.out]; omega
          obtain ⟨b, off, ha, xv, hx0, x0, x1, x2, -⟩ := HX.out.cell hlt hdl
          obtain ⟨t, ht⟩ : ∃ t, t = (l k)[d].stamp := ⟨_, rfl⟩
          rw [← ht] at x2
          have HC2 := Lib.hid x2
          have hcl2 := HCL.out
          rw [ha] at hcl2
          have HCL2 := Lib.hid hcl2
          have HMX : Hid (stampTo l v (k + 1) = max s t) := Lib.hid (by rw [stampTo_take (d := d) (by rw [← HM.out, hd]) hdl, ← HS.out, ht])
          have hsub : IntKind.u64.wrap ((m : Int) - 1) = (d : Int) := by simp [IntKind.wrap, IntKind.bits, IntKind.signed]; omega
          have hd0 : (0 : Int) ≤ (d : Int) := by omega
          have hd1 : (d : Int) < (n : Int) := by omega
          have hmnd : decide (m ≤ n) = true := decide_eq_true hmn
          have HD := Lib.hid hd
          clear hx0 x0 x1 x2 hcl2 ha ht hd hdl
          by_cases hst : s < t
          · have hsd : decide (s < t) = true := decide_eq_true hst
            have HT : Hid (t = stampTo l v (k + 1)) := Lib.hid (by rw [HMX.out]; omega)
            go_upto_region 5 with (fail)
            refine qRegion (fun w' => w'.cell? ⟨w.heap.size + 1, k, none⟩ = some (.int .u64 (m : Int)) ∧ w'.cell? ⟨w.heap.size, k, none⟩ = some (.slice (some ⟨b, off, none⟩) n (u k).c) ∧ w'.cell? ⟨b, off + d * 12 + 2, none⟩ = some (.int .u64 (t : Int)) ∧ Gr W w') (by kernel_rfl) (by kernel_rfl) ⟨(Gr.refl _).drew.cell HCV.out, (Gr.refl _).drew.cell HCL2.out, HGR.out.drew.cell HC2.out, HGR.out.drew⟩ ?_
            iterate 29
              refine qTake (by kernel_rfl) ?_
              apply Exists.intro
              refine ⟨fun wq hq => ?_, ?_⟩
              · go_light
                obtain ⟨e0, e1, e2, -⟩ := hq
                go_simp
                try with_reducible rfl
                done
              try simp only [Act.put, List.setIfInBounds_toArray, List.set_cons_zero, List.set_cons_succ]
            refine qNil ?_
            rintro w3 ⟨h30, h31, h32, hg3⟩
            have H30 := Lib.hid h30
            have H31 := Lib.hid h31
            have H32 := Lib.hid h32
            have HG3 := Lib.hid hg3
            clear h30 h31 h32 hg3
            go_upto_region 6 with (fail)
            refine qRegion (fun w' => w'.cell? ⟨w.heap.size + 1, k, none⟩ = some (.int .u64 (m : Int)) ∧ w'.cell? ⟨w.heap.size, k, none⟩ = some (.slice (some ⟨b, off, none⟩) n (u k).c) ∧ w'.cell? ⟨b, off + d * 12 + 2, none⟩ = some (.int .u64 (t : Int)) ∧ Gr W w') (by kernel_rfl) (by kernel_rfl) ⟨(Gr.refl _).drew.cell H30.out, (Gr.refl _).drew.cell H31.out, (Gr.refl _).drew.cell H32.out, HG3.out.drew⟩ ?_
            iterate 11
              refine qTake (by kernel_rfl) ?_
              apply Exists.intro
              refine ⟨fun wq hq => ?_, ?_⟩
              · go_light
                obtain ⟨e0, e1, e2, -⟩ := hq
                go_simp
                try with_reducible rfl
                done
              try simp only [Act.put, List.setIfInBounds_toArray, List.set_cons_zero, List.set_cons_succ]
            refine qNil ?_
            rintro w4 ⟨-, -, -, hg4⟩
            have HG4 := Lib.hid hg4
            clear hg4
            go_wp2_with fail
            go_roundw
            case measure => simp [intOf]; omega
            case rel => exact ⟨k + 1, by omega, by go_num, by rw [← HT.out], HG4.out⟩
          · have hsd : decide (s < t) = false := decide_eq_false hst
            have HT : Hid (s = stampTo l v (k + 1)) := Lib.hid (by rw [HMX.out]; omega)
            go_upto_region 5 with (fail)
            refine qRegion (fun w' => w'.cell? ⟨w.heap.size + 1, k, none⟩ = some (.int .u64 (m : Int)) ∧ w'.cell? ⟨w.heap.size, k, none⟩ = some (.slice (some ⟨b, off, none⟩) n (u k).c) ∧ w'.cell? ⟨b, off + d * 12 + 2, none⟩ = some (.int .u64 (t : Int)) ∧ Gr W w') (by kernel_rfl) (by kernel_rfl) ⟨(Gr.refl _).drew.cell HCV.out, (Gr.refl _).drew.cell HCL2.out, HGR.out.drew.cell HC2.out, HGR.out.drew⟩ ?_
            iterate 29
              refine qTake (by kernel_rfl) ?_
              apply Exists.intro
              refine ⟨fun wq hq => ?_, ?_⟩
              · go_light
                obtain ⟨e0, e1, e2, -⟩ := hq
                go_simp
                try with_reducible rfl
                done
              try simp only [Act.put, List.setIfInBounds_toArray, List.set_cons_zero, List.set_cons_succ]
            refine qNil ?_
            rintro w3 ⟨-, -, -, hg3⟩
            have HG3 := Lib.hid hg3
            clear hg3
            go_wp2_with fail
            go_roundw
            case measure => simp [intOf]; omega
            case rel => exact ⟨k + 1, by omega, by go_num, by rw [← HT.out], HG3.out⟩
        · have hmnd : decide (m ≤ n) = false := decide_eq_false hmn
          have HT : Hid (s = stampTo l v (k + 1)) := Lib.hid (by rw [stampTo_skip (Or.inr (by rw [← HM.out, ← HN.out]; omega))]; exact HS.out)
          go_upto_region 5 with (fail)
          refine qRegion (fun w' => w'.cell? ⟨w.heap.size + 1, k, none⟩ = some (.int .u64 (m : Int)) ∧ w'.cell? ⟨w.heap.size, k, none⟩ = some (.slice (u k).a n (u k).c) ∧ Gr W w') (by kernel_rfl) (by kernel_rfl) ⟨(Gr.refl _).drew.cell HCV.out, (Gr.refl _).drew.cell HCL.out, HGR.out.drew⟩ ?_
          iterate 16
            refine qTake (by kernel_rfl) ?_
            apply Exists.intro
            refine ⟨fun wq hq => ?_, ?_⟩
            · go_light
              obtain ⟨e0, e1, -⟩ := hq
              go_simp
              try with_reducible rfl
              done
            try simp only [Act.put, List.setIfInBounds_toArray, List.set_cons_zero, List.set_cons_succ]
          iterate 12
            refine qSkip (by kernel_rfl) ?_
            try simp only [Act.put, List.setIfInBounds_toArray, List.set_cons_zero, List.set_cons_succ]
          iterate 1
            refine qTake (by kernel_rfl) ?_
            apply Exists.intro
            refine ⟨fun wq hq => ?_, ?_⟩
            · go_light
              obtain ⟨e0, e1, -⟩ := hq
              go_simp
              try with_reducible rfl
              done
            try simp only [Act.put, List.setIfInBounds_toArray, List.set_cons_zero, List.set_cons_succ]
          refine qNil ?_
          rintro w3 ⟨-, -, hg3⟩
          have HG3 := Lib.hid hg3
          clear hg3
          go_wp2_with fail
          go_roundw
          case measure => simp [intOf]; omega
          case rel => exact ⟨k + 1, by omega, by go_num, by rw [← HT.out], HG3.out⟩
    · obtain rfl : k = 8 := by omega
      have HGR := Lib.hid hgr
      clear hgr
      go_wp2_with fail
      go_ret
      exact ⟨rfl, HG.out.trans HGR.out⟩
end Go.Proofs.YtnjmgknicffcbaaGreatDoor
