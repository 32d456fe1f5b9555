/- Texts CutQ, joined. -/
import Derived.Test.YtaldgjcbbjjceaaG09
/- Walks: the document's Stamp. -/
namespace Go.Proofs.Ytaldgjcbbjjceaa
open Go.RowKit Go.Joins

set_option maxRecDepth 100000 in
set_option maxHeartbeats 4000000 in
theorem rstamp_any (u : Nat → S3) (l : LG) (v : Nat → Nat) (w : World) (h : LV w u l) :
    Calls Try.prog 45 #[.agg (lcells u), .agg (vcells v)] w fun e w' => e = .returned (.int .u64 (stampV l v : Int)) ∧ Gr w w' := by
  obtain ⟨W, hW, hg, hsz, hL, hV⟩ := boxesLV u v w
  have HV := Lib.hid hV
  have HL := Lib.hid hL
  have HG := Lib.hid hg
  have HX := Lib.hid (h.gr hg)
  clear hL hV hg hsz h
  go_enter Try.func45, Try.ntmps45
  go_upto_region 1 with (fail)
  rw [← hW]
  clear hW
  go_wp2_with fail
  go_loopw [5, 6] (fun s i wr => ∃ k : Nat, k ≤ 8 ∧ i = .int .i64 k ∧ s = .int .u64 (stampTo l v k : Int) ∧ Gr W wr) (fun _ i _ => 8 - (intOf i).toNat)
  case atStart => exact ⟨0, by decide, rfl, rfl, Gr.refl _⟩
  case round =>
    obtain ⟨k, hk, rfl, rfl, hgr⟩ := hrel
    rename World => wr
    by_cases hlt : k < 8
    · have hk0 : (0 : Int) ≤ (k : Int) := Int.natCast_nonneg _
      have hk8 : (k : Int) < 8 := by omega
      have hcv := (HV.out.gr hgr).at hlt
      have hcl := (HL.out.gr hgr).at hlt
      rw [HX.out.len hlt] at hcl
      have hle := HX.out.le hlt
      have hw := u64_len hle
      obtain ⟨m, hm⟩ : ∃ m, m = v k := ⟨_, rfl⟩
      obtain ⟨n, hn⟩ : ∃ n, n = (l k).length := ⟨_, rfl⟩
      obtain ⟨s, hs⟩ : ∃ s, s = stampTo l v k := ⟨_, rfl⟩
      rw [← hm] at hcv
      rw [← hn] at hcl hle hw
      rw [← hs]
      have HCV := Lib.hid hcv
      have HCL := Lib.hid hcl
      have HM := Lib.hid hm
      have HN := Lib.hid hn
      have HS := Lib.hid hs
      have HGR := Lib.hid hgr
      clear hcv hcl hm hn hs hgr
      rcases Nat.eq_zero_or_pos m with h0 | hpos
      · subst h0
        have HT : Hid (s = stampTo l v (k + 1)) := Lib.hid (by rw [stampTo_skip (Or.inl HM.out.symm)]; exact HS.out)
        go_upto_region 5 with (fail)
        refine qRegion (fun w' => w'.cell? ⟨w.heap.size + 1, k, none⟩ = some (.int .u64 0) ∧ w'.cell? ⟨w.heap.size, k, none⟩ = some (.slice (u k).a n (u k).c) ∧ Gr W w') (by kernel_rfl) (by kernel_rfl) ⟨(Gr.refl _).drew.cell HCV.out, (Gr.refl _).drew.cell HCL.out, HGR.out.drew⟩ ?_
        iterate 5
          refine qTake (by kernel_rfl) ?_
          apply Exists.intro
          refine ⟨fun wq hq => ?_, ?_⟩
          · go_light
            obtain ⟨e0, e1, -⟩ := hq
            go_simp
            try with_reducible rfl
            done
          try simp only [Act.put, List.setIfInBounds_toArray, List.set_cons_zero, List.set_cons_succ]
        iterate 9
          refine qSkip (by kernel_rfl) ?_
          try simp only [Act.put, List.setIfInBounds_toArray, List.set_cons_zero, List.set_cons_succ]
        iterate 2
          refine qTake (by kernel_rfl) ?_
          apply Exists.intro
          refine ⟨fun wq hq => ?_, ?_⟩
          · go_light
            obtain ⟨e0, e1, -⟩ := hq
            go_simp
            try with_reducible rfl
            done
          try simp only [Act.put, List.setIfInBounds_toArray, List.set_cons_zero, List.set_cons_succ]
        iterate 12
          refine qSkip (by kernel_rfl) ?_
          try simp only [Act.put, List.setIfInBounds_toArray, List.set_cons_zero, List.set_cons_succ]
        iterate 1
          refine qTake (by kernel_rfl) ?_
          apply Exists.intro
          refine ⟨fun wq hq => ?_, ?_⟩
          · go_light
            obtain ⟨e0, e1, -⟩ := hq
            go_simp
            try with_reducible rfl
            done
          try simp only [Act.put, List.setIfInBounds_toArray, List.set_cons_zero, List.set_cons_succ]
        refine qNil ?_
        rintro w3 ⟨-, -, hg3⟩
        have HG3 := Lib.hid hg3
        clear hg3
        go_wp2_with fail
        go_roundw
        case measure => simp [intOf]; omega
        case rel => exact ⟨k + 1, by omega, by go_num, by rw [← HT.out], HG3.out⟩
      · have hmp : (0 : Int) < (m : Int) := by omega
        have hmd : decide (0 < m) = true := decide_eq_true hpos
        by_cases hmn : m ≤ n
        · obtain ⟨d, hd⟩ : ∃ d, m = d + 1 := ⟨m - 1, by omega⟩
          have hdl : d < (l k).length := by rw [← HN.out]; omega
          obtain ⟨b, off, ha, xv, hx0, x0, x1, x2, -⟩ := HX.out.cell hlt hdl
          obtain ⟨t, ht⟩ : ∃ t, t = (l k)[d].stamp := ⟨_, rfl⟩
          rw [← ht] at x2
          have HC2 := Lib.hid x2
          have hcl2 := HCL.out
          rw [ha] at hcl2
          have HCL2 := Lib.hid hcl2
          have HMX : Hid (stampTo l v (k + 1) = max s t) := Lib.hid (by rw [stampTo_take (d := d) (by rw [← HM.out, hd]) hdl, ← HS.out, ht])
          have hsub : IntKind.u64.wrap ((m : Int) - 1) = (d : Int) := by simp [IntKind.wrap, IntKind.bits, IntKind.signed]; omega
          have hd0 : (0 : Int) ≤ (d : Int) := by omega
          have hd1 : (d : Int) < (n : Int) := by omega
          have hmnd : decide (m ≤ n) = true := decide_eq_true hmn
          have HD := Lib.hid hd
          clear hx0 x0 x1 x2 hcl2 ha ht hd hdl
          by_cases hst : s < t
          · have hsd : decide (s < t) = true := decide_eq_true hst
            have HT : Hid (t = stampTo l v (k + 1)) := Lib.hid (by rw [HMX.out]; omega)
            go_upto_region 5 with (fail)
            refine qRegion (fun w' => w'.cell? ⟨w.heap.size + 1, k, none⟩ = some (.int .u64 (m : Int)) ∧ w'.cell? ⟨w.heap.size, k, none⟩ = some (.slice (some ⟨b, off, none⟩) n (u k).c) ∧ w'.cell? ⟨b, off + d * 12 + 2, none⟩ = some (.int .u64 (t : Int)) ∧ Gr W w') (by kernel_rfl) (by kernel_rfl) ⟨(Gr.refl _).drew.cell HCV.out, (Gr.refl _).drew.cell HCL2.out, HGR.out.drew.cell HC2.out, HGR.out.drew⟩ ?_
            iterate 29
              refine qTake (by kernel_rfl) ?_
              apply Exists.intro
              refine ⟨fun wq hq => ?_, ?_⟩
              · go_light
                obtain ⟨e0, e1, e2, -⟩ := hq
                go_simp
                try with_reducible rfl
                done
              try simp only [Act.put, List.setIfInBounds_toArray, List.set_cons_zero, List.set_cons_succ]
            refine qNil ?_
            rintro w3 ⟨h30, h31, h32, hg3⟩
            have H30 := Lib.hid h30
            have H31 := Lib.hid h31
            have H32 := Lib.hid h32
            have HG3 := Lib.hid hg3
            clear h30 h31 h32 hg3
            go_upto_region 6 with (fail)
            refine qRegion (fun w' => w'.cell? ⟨w.heap.size + 1, k, none⟩ = some (.int .u64 (m : Int)) ∧ w'.cell? ⟨w.heap.size, k, none⟩ = some (.slice (some ⟨b, off, none⟩) n (u k).c) ∧ w'.cell? ⟨b, off + d * 12 + 2, none⟩ = some (.int .u64 (t : Int)) ∧ Gr W w') (by kernel_rfl) (by kernel_rfl) ⟨(Gr.refl _).drew.cell H30.out, (Gr.refl _).drew.cell H31.out, (Gr.refl _).drew.cell H32.out, HG3.out.drew⟩ ?_
            iterate 11
              refine qTake (by kernel_rfl) ?_
              apply Exists.intro
              refine ⟨fun wq hq => ?_, ?_⟩
              · go_light
                obtain ⟨e0, e1, e2, -⟩ := hq
                go_simp
                try with_reducible rfl
                done
              try simp only [Act.put, List.setIfInBounds_toArray, List.set_cons_zero, List.set_cons_succ]
            refine qNil ?_
            rintro w4 ⟨-, -, -, hg4⟩
            have HG4 := Lib.hid hg4
            clear hg4
            go_wp2_with fail
            go_roundw
            case measure => simp [intOf]; omega
            case rel => exact ⟨k + 1, by omega, by go_num, by rw [← HT.out], HG4.out⟩
          · have hsd : decide (s < t) = false := decide_eq_false hst
            have HT : Hid (s = stampTo l v (k + 1)) := Lib.hid (by rw [HMX.out]; omega)
            go_upto_region 5 with (fail)
            refine qRegion (fun w' => w'.cell? ⟨w.heap.size + 1, k, none⟩ = some (.int .u64 (m : Int)) ∧ w'.cell? ⟨w.heap.size, k, none⟩ = some (.slice (some ⟨b, off, none⟩) n (u k).c) ∧ w'.cell? ⟨b, off + d * 12 + 2, none⟩ = some (.int .u64 (t : Int)) ∧ Gr W w') (by kernel_rfl) (by kernel_rfl) ⟨(Gr.refl _).drew.cell HCV.out, (Gr.refl _).drew.cell HCL2.out, HGR.out.drew.cell HC2.out, HGR.out.drew⟩ ?_
            iterate 29
              refine qTake (by kernel_rfl) ?_
              apply Exists.intro
              refine ⟨fun wq hq => ?_, ?_⟩
              · go_light
                obtain ⟨e0, e1, e2, -⟩ := hq
                go_simp
                try with_reducible rfl
                done
              try simp only [Act.put, List.setIfInBounds_toArray, List.set_cons_zero, List.set_cons_succ]
            refine qNil ?_
            rintro w3 ⟨-, -, -, hg3⟩
            have HG3 := Lib.hid hg3
            clear hg3
            go_wp2_with fail
            go_roundw
            case measure => simp [intOf]; omega
            case rel => exact ⟨k + 1, by omega, by go_num, by rw [← HT.out], HG3.out⟩
        · have hmnd : decide (m ≤ n) = false := decide_eq_false hmn
          have HT : Hid (s = stampTo l v (k + 1)) := Lib.hid (by rw [stampTo_skip (Or.inr (by rw [← HM.out, ← HN.out]; omega))]; exact HS.out)
          go_upto_region 5 with (fail)
          refine qRegion (fun w' => w'.cell? ⟨w.heap.size + 1, k, none⟩ = some (.int .u64 (m : Int)) ∧ w'.cell? ⟨w.heap.size, k, none⟩ = some (.slice (u k).a n (u k).c) ∧ Gr W w') (by kernel_rfl) (by kernel_rfl) ⟨(Gr.refl _).drew.cell HCV.out, (Gr.refl _).drew.cell HCL.out, HGR.out.drew⟩ ?_
          iterate 16
            refine qTake (by kernel_rfl) ?_
            apply Exists.intro
            refine ⟨fun wq hq => ?_, ?_⟩
            · go_light
              obtain ⟨e0, e1, -⟩ := hq
              go_simp
              try with_reducible rfl
              done
            try simp only [Act.put, List.setIfInBounds_toArray, List.set_cons_zero, List.set_cons_succ]
          iterate 12
            refine qSkip (by kernel_rfl) ?_
            try simp only [Act.put, List.setIfInBounds_toArray, List.set_cons_zero, List.set_cons_succ]
          iterate 1
            refine qTake (by kernel_rfl) ?_
            apply Exists.intro
            refine ⟨fun wq hq => ?_, ?_⟩
            · go_light
              obtain ⟨e0, e1, -⟩ := hq
              go_simp
              try with_reducible rfl
              done
            try simp only [Act.put, List.setIfInBounds_toArray, List.set_cons_zero, List.set_cons_succ]
          refine qNil ?_
          rintro w3 ⟨-, -, hg3⟩
          have HG3 := Lib.hid hg3
          clear hg3
          go_wp2_with fail
          go_roundw
          case measure => simp [intOf]; omega
          case rel => exact ⟨k + 1, by omega, by go_num, by rw [← HT.out], HG3.out⟩
    · obtain rfl : k = 8 := by omega
      have HGR := Lib.hid hgr
      clear hgr
      go_wp2_with fail
      go_ret
      exact ⟨rfl, HG.out.trans HGR.out⟩
end Go.Proofs.Ytaldgjcbbjjceaa
