/- Texts CutC, ValB, CutP, CutQ, joined. -/
import Derived.Test.YtlihcjlonafohaaG08
import Derived.Test.YtlihcjlonafohaaG10
/- Walks: the program's Closed. -/
namespace Go.Proofs.Ytlihcjlonafohaa
open Go.RowKit Go.Joins

/-- The transactions of the first k logs, as far as the cut goes, depend on nothing beyond it. -/
def closedTo (l : LG) (v : Nat → Nat) (k : Nat) : Prop := ∀ i d t, i < k → d < v i → (l i)[d]? = some t → leqB t.deps v = true
def closedIn (l : LG) (v : Nat → Nat) (i k : Nat) : Prop := ∀ d t, d < k → (l i)[d]? = some t → leqB t.deps v = true
theorem closedTo_next {l : LG} {v : Nat → Nat} {k : Nat} (h : closedTo l v k) (h2 : closedIn l v k (v k)) : closedTo l v (k + 1) := fun i d t hi hd ht => by
  by_cases e : i = k
  · subst e; exact h2 d t hd ht
  · exact h i d t (by omega) hd ht
theorem closedIn_next {l : LG} {v : Nat → Nat} {i d : Nat} {t : TX} (h : closedIn l v i d) (ht : (l i)[d]? = some t) (h2 : leqB t.deps v = true) : closedIn l v i (d + 1) := fun e u he hu => by
  by_cases q : e = d
  · subst q
    rw [ht] at hu
    injection hu with hu
    rw [← hu]; exact h2
  · exact h e u (by omega) hu
theorem closedB_no {l : LG} {v : Nat → Nat} (h : ¬ closedP l v) : closedB l v = false := by
  rw [Bool.eq_false_iff]
  exact fun e => h (closedB_iff.1 e)
theorem closedB_yes {l : LG} {v : Nat → Nat} (h : closedP l v) : closedB l v = true := closedB_iff.2 h
set_option maxRecDepth 100000 in
theorem slice_txs (A : Option Addr) {n c k : Nat} (hk : k ≤ c) (W : World) : (Instr.slice 22 (.slice A n c) none (some (.int .u64 (k : Int))) none).run Try.prog W = .ok (.slice A k c) W := by
  have hz : ∀ W : World, (sizeOf (Try.prog.elem 22)).run Try.prog W = .ok 12 W := fun W => by show _ = _; kernel_rfl
  rw [run_slice_h W _ A n c Try.underlying22 .u64 (k : Int) (by omega) (by omega), hz]
  show Result.ok (sliced A 0 (k : Int).toNat c 12) W = _
  unfold sliced
  rw [Int.toNat_natCast]
  cases A with
  | none => simp
  | some a => simp [Addr.add]
theorem LV.cap {w : World} {u : Nat → S3} {l : LG} (h : LV w u l) {i : Nat} (hi : i < 8) : (l i).length ≤ (u i).c ∧ (u i).c ≤ maxLen := by
  obtain ⟨A, c, hv, h1, ⟨h2, _⟩, _⟩ := h i hi
  injection hv with e1 e2 e3
  rw [e3]
  exact ⟨h1, h2⟩

end Go.Proofs.Ytlihcjlonafohaa
/- Walks: the deeds on a key. -/
namespace Go.Proofs.Ytlihcjlonafohaa
open Go.RowKit Go.Joins

theorem opbox (w : World) (o : TO) : ∃ W, W = w.alloc (.cells (opv o) 46) ∧ Gr w W ∧ TCell W w.heap.size 0 o := by
  refine ⟨_, rfl, (Gr.refl w).alloc _, ?_⟩
  unfold TCell
  refine ⟨?_, ?_, ?_, ?_⟩ <;> (rw [World.cell?_alloc_at _ _ _ _ rfl]; rfl)
end Go.Proofs.Ytlihcjlonafohaa
/- Walks: the document's Size, Stamp, Check, Same. -/
namespace Go.Proofs.Ytlihcjlonafohaa
open Go.RowKit Go.Joins

set_option maxRecDepth 100000 in
set_option maxHeartbeats 2000000 in
theorem rsize_any (u : Nat → S3) (l : LG) (w : World) (h : LV w u l) :
    Calls Try.prog 11 #[.agg (lcells u)] w fun e w' => e = .returned (.agg (vcells (sizeV l))) ∧ Gr w w' := by
  obtain ⟨W, hW, hg, hsz, hL, hR, hV⟩ := boxesSz u w
  have HL := Lib.hid hL
  have HR := Lib.hid hR
  have HV := Lib.hid hV
  have HG := Lib.hid hg
  have HN := Lib.hid (fun k (hk : k < 8) => h.len hk)
  have HLE := Lib.hid (fun k (hk : k < 8) => h.le hk)
  clear hL hR hV hg hsz h
  go_enter Try.func11, Try.ntmps11
  go_upto_region 2 with (fail)
  rw [← hW]
  clear hW
  go_wp2_with fail
  go_loopw [4] (fun i wr => ∃ k : Nat, k ≤ 8 ∧ i = .int .i64 k ∧ VBox wr (w.heap.size + 1 + 1) (szTo l k) ∧ VBox wr (w.heap.size + 1) (fun _ => 0) ∧ LBox wr w.heap.size u ∧ Gr w wr) (fun i _ => 8 - (intOf i).toNat)
  case atStart => exact ⟨0, by decide, rfl, HV.out, HR.out, HL.out, HG.out⟩
  case round =>
    obtain ⟨k, hk, rfl, hV, hR, hL, hgr⟩ := hrel
    rename World => wr
    by_cases hlt : k < 8
    · have hk0 : (0 : Int) ≤ (k : Int) := Int.natCast_nonneg _
      have hk8 : (k : Int) < 8 := by omega
      have hc := hV.at hlt
      have hl := hL.at hlt
      have hfz : wr.frozen? ⟨w.heap.size + 1 + 1, k, none⟩ = false := unfrozen_of_block hV.box k
      have hw := u64_len (HLE.out k hlt)
      rw [HN.out k hlt] at hl
      have HV2 := Lib.hid hV
      have HR2 := Lib.hid hR
      have HL2 := Lib.hid hL
      have HG2 := Lib.hid hgr
      clear hV hR hL hgr
      go_wp2_with fail
      go_roundw
      case measure => simp [intOf]; omega
      case rel =>
        refine ⟨k + 1, by omega, by go_num, ?_, HR2.out.far (by simp) _, HL2.out.far (by simp only []; omega) _, Gr.setCell HG2.out (by simp; omega) _⟩
        rw [← szTo_next]
        exact HV2.out.set hlt _
    · obtain rfl : k = 8 := by omega
      obtain ⟨s0, s1, s2, s3, s4, s5, s6, s7⟩ := hV.all
      obtain ⟨r0, r1, r2, r3, r4, r5, r6, r7⟩ := hR.zero
      obtain ⟨f0, f1, f2, f3, f4, f5, f6, f7⟩ := hR.fz
      have HG2 := Lib.hid hgr
      clear hV hR hL hgr
      go_wp2_with fail
      exact bodyPost_ret (v := .agg (vcells (szTo l 8))) (by simp [results, Try.results11, go_sem, *]) rfl ⟨rfl, by as_aux_lemma => (iterate 8 (with_reducible refine Gr.setCell ?_ (Nat.le_succ _) _)); exact HG2.out⟩
/-- The same logs? -/
def sameLG (a b : LG) : Bool := (List.range 8).all fun i => sameL (a i) (b i)
theorem sameLG_iff {a b : LG} : sameLG a b = true ↔ ∀ i, i < 8 → sameL (a i) (b i) = true := by simp [sameLG]
theorem sameLG_self (a : LG) : sameLG a a = true := sameLG_iff.2 fun _ _ => sameL_self _
theorem sameLG_of {a b : LG} (h : ∀ i, i < 8 → a i = b i) : sameLG a b = true := sameLG_iff.2 fun i hi => by rw [h i hi]; exact sameL_self _
theorem sameLG_no {a b : LG} {i : Nat} (hi : i < 8) (h : sameL (a i) (b i) = false) : sameLG a b = false := by
  rw [Bool.eq_false_iff]
  intro e
  rw [sameLG_iff.1 e i hi] at h
  cases h
theorem boxesLL (u v : Nat → S3) (w : World) : ∃ W, W = (w.alloc (.cells (lcells u) 24)).alloc (.cells (lcells v) 24) ∧ Gr w W ∧ W.heap.size = w.heap.size + 2 ∧
    LBox W w.heap.size u ∧ LBox W (w.heap.size + 1) v := by
  refine ⟨_, rfl, ((Gr.refl w).alloc _).alloc _, by simp, ⟨?_⟩, ⟨?_⟩⟩
  all_goals (simp only [World.alloc, Array.getElem?_push, Array.size_push]; simp)
end Go.Proofs.Ytlihcjlonafohaa
/- Walks: the document's Stamp. -/
namespace Go.Proofs.Ytlihcjlonafohaa
open Go.RowKit Go.Joins

set_option maxRecDepth 100000 in
set_option maxHeartbeats 4000000 in
theorem rstamp_any (u : Nat → S3) (l : LG) (v : Nat → Nat) (w : World) (h : LV w u l) :
    Calls Try.prog 14 #[.agg (lcells u), .agg (vcells v)] w fun e w' => e = .returned (.int .u64 (stampV l v : Int)) ∧ Gr w w' := by
  obtain ⟨W, hW, hg, hsz, hL, hV⟩ := boxesLV u v w
  have HV := Lib.hid hV
  have HL := Lib.hid hL
  have HG := Lib.hid hg
  have HX := Lib.hid (h.gr hg)
  clear hL hV hg hsz h
  go_enter Try.func14, Try.ntmps14
  go_upto_region 1 with (fail)
  rw [← hW]
  clear hW
  go_wp2_with fail
  go_loopw [5, 6] (fun s i wr => ∃ k : Nat, k ≤ 8 ∧ i = .int .i64 k ∧ s = .int .u64 (stampTo l v k : Int) ∧ Gr W wr) (fun _ i _ => 8 - (intOf i).toNat)
  case atStart => exact ⟨0, by decide, rfl, rfl, Gr.refl _⟩
  case round =>
    obtain ⟨k, hk, rfl, rfl, hgr⟩ := hrel
    rename World => wr
    by_cases hlt : k < 8
    · have hk0 : (0 : Int) ≤ (k : Int) := Int.natCast_nonneg _
      have hk8 : (k : Int) < 8 := by omega
      have hcv := (HV.out.gr hgr).at hlt
      have hcl := (HL.out.gr hgr).at hlt
      rw [HX.out.len hlt] at hcl
      have hle := HX.out.le hlt
      have hw := u64_len hle
      obtain ⟨m, hm⟩ : ∃ m, m = v k := ⟨_, rfl⟩
      obtain ⟨n, hn⟩ : ∃ n, n = (l k).length := ⟨_, rfl⟩
      obtain ⟨s, hs⟩ : ∃ s, s = stampTo l v k := ⟨_, rfl⟩
      rw [← hm] at hcv
      rw [← hn] at hcl hle hw
      rw [← hs]
      have HCV := Lib.hid hcv
      have HCL := Lib.hid hcl
      have HM := Lib.hid hm
      have HN := Lib.hid hn
      have HS := Lib.hid hs
      have HGR := Lib.hid hgr
      clear hcv hcl hm hn hs hgr
      rcases Nat.eq_zero_or_pos m with h0 | hpos
      · subst h0
        have HT : Hid (s = stampTo l v (k + 1)) := Lib.hid (by rw [stampTo_skip (Or.inl HM.out.symm)]; exact HS.out)
        go_upto_region 5 with (fail)
        refine qRegion (fun w' => w'.cell? ⟨w.heap.size + 1, k, none⟩ = some (.int .u64 0) ∧ w'.cell? ⟨w.heap.size, k, none⟩ = some (.slice (u k).a n (u k).c) ∧ Gr W w') (by kernel_rfl) (by kernel_rfl) ⟨(Gr.refl _).drew.cell HCV.out, (Gr.refl _).drew.cell HCL.out, HGR.out.drew⟩ ?_
        iterate 5
          refine qTake (by kernel_rfl) ?_
          apply Exists.intro
          refine ⟨fun wq hq => ?_, ?_⟩
          · go_light
            obtain ⟨e0, e1, -⟩ := hq
            go_simp
            try with_reducible rfl
            done
          try simp only [Act.put, List.setIfInBounds_toArray, List.set_cons_zero, List.set_cons_succ]
        iterate 9
          refine qSkip (by kernel_rfl) ?_
          try simp only [Act.put, List.setIfInBounds_toArray, List.set_cons_zero, List.set_cons_succ]
        iterate 2
          refine qTake (by kernel_rfl) ?_
          apply Exists.intro
          refine ⟨fun wq hq => ?_, ?_⟩
          · go_light
            obtain ⟨e0, e1, -⟩ := hq
            go_simp
            try with_reducible rfl
            done
          try simp only [Act.put, List.setIfInBounds_toArray, List.set_cons_zero, List.set_cons_succ]
        iterate 12
          refine qSkip (by kernel_rfl) ?_
          try simp only [Act.put, List.setIfInBounds_toArray, List.set_cons_zero, List.set_cons_succ]
        iterate 1
          refine qTake (by kernel_rfl) ?_
          apply Exists.intro
          refine ⟨fun wq hq => ?_, ?_⟩
          · go_light
            obtain ⟨e0, e1, -⟩ := hq
            go_simp
            try with_reducible rfl
            done
          try simp only [Act.put, List.setIfInBounds_toArray, List.set_cons_zero, List.set_cons_succ]
        refine qNil ?_
        rintro w3 ⟨-, -, hg3⟩
        have HG3 := Lib.hid hg3
        clear hg3
        go_wp2_with fail
        go_roundw
        case measure => simp [intOf]; omega
        case rel => exact ⟨k + 1, by omega, by go_num, by rw [← HT.out], HG3.out⟩
      · have hmp : (0 : Int) < (m : Int) := by omega
        have hmd : decide (0 < m) = true := decide_eq_true hpos
        by_cases hmn : m ≤ n
        · obtain ⟨d, hd⟩ : ∃ d, m = d + 1 := ⟨m - 1, by omega⟩
          have hdl : d < (l k).length := by rw [← HN.out]; omega
          obtain ⟨b, off, ha, xv, hx0, x0, x1, x2, -⟩ := HX.out.cell hlt hdl
          obtain ⟨t, ht⟩ : ∃ t, t = (l k)[d].stamp := ⟨_, rfl⟩
          rw [← ht] at x2
          have HC2 := Lib.hid x2
          have hcl2 := HCL.out
          rw [ha] at hcl2
          have HCL2 := Lib.hid hcl2
          have HMX : Hid (stampTo l v (k + 1) = max s t) := Lib.hid (by rw [stampTo_take (d := d) (by rw [← HM.out, hd]) hdl, ← HS.out, ht])
          have hsub : IntKind.u64.wrap ((m : Int) - 1) = (d : Int) := by simp [IntKind.wrap, IntKind.bits, IntKind.signed]; omega
          have hd0 : (0 : Int) ≤ (d : Int) := by omega
          have hd1 : (d : Int) < (n : Int) := by omega
          have hmnd : decide (m ≤ n) = true := decide_eq_true hmn
          have HD := Lib.hid hd
          clear hx0 x0 x1 x2 hcl2 ha ht hd hdl
          by_cases hst : s < t
          · have hsd : decide (s < t) = true := decide_eq_true hst
            have HT : Hid (t = stampTo l v (k + 1)) := Lib.hid (by rw [HMX.out]; omega)
            go_upto_region 5 with (fail)
            refine qRegion (fun w' => w'.cell? ⟨w.heap.size + 1, k, none⟩ = some (.int .u64 (m : Int)) ∧ w'.cell? ⟨w.heap.size, k, none⟩ = some (.slice (some ⟨b, off, none⟩) n (u k).c) ∧ w'.cell? ⟨b, off + d * 12 + 2, none⟩ = some (.int .u64 (t : Int)) ∧ Gr W w') (by kernel_rfl) (by kernel_rfl) ⟨(Gr.refl _).drew.cell HCV.out, (Gr.refl _).drew.cell HCL2.out, HGR.out.drew.cell HC2.out, HGR.out.drew⟩ ?_
            iterate 29
              refine qTake (by kernel_rfl) ?_
              apply Exists.intro
              refine ⟨fun wq hq => ?_, ?_⟩
              · go_light
                obtain ⟨e0, e1, e2, -⟩ := hq
                go_simp
                try with_reducible rfl
                done
              try simp only [Act.put, List.setIfInBounds_toArray, List.set_cons_zero, List.set_cons_succ]
            refine qNil ?_
            rintro w3 ⟨h30, h31, h32, hg3⟩
            have H30 := Lib.hid h30
            have H31 := Lib.hid h31
            have H32 := Lib.hid h32
            have HG3 := Lib.hid hg3
            clear h30 h31 h32 hg3
            go_upto_region 6 with (fail)
            refine qRegion (fun w' => w'.cell? ⟨w.heap.size + 1, k, none⟩ = some (.int .u64 (m : Int)) ∧ w'.cell? ⟨w.heap.size, k, none⟩ = some (.slice (some ⟨b, off, none⟩) n (u k).c) ∧ w'.cell? ⟨b, off + d * 12 + 2, none⟩ = some (.int .u64 (t : Int)) ∧ Gr W w') (by kernel_rfl) (by kernel_rfl) ⟨(Gr.refl _).drew.cell H30.out, (Gr.refl _).drew.cell H31.out, (Gr.refl _).drew.cell H32.out, HG3.out.drew⟩ ?_
            iterate 11
              refine qTake (by kernel_rfl) ?_
              apply Exists.intro
              refine ⟨fun wq hq => ?_, ?_⟩
              · go_light
                obtain ⟨e0, e1, e2, -⟩ := hq
                go_simp
                try with_reducible rfl
                done
              try simp only [Act.put, List.setIfInBounds_toArray, List.set_cons_zero, List.set_cons_succ]
            refine qNil ?_
            rintro w4 ⟨-, -, -, hg4⟩
            have HG4 := Lib.hid hg4
            clear hg4
            go_wp2_with fail
            go_roundw
            case measure => simp [intOf]; omega
            case rel => exact ⟨k + 1, by omega, by go_num, by rw [← HT.out], HG4.out⟩
          · have hsd : decide (s < t) = false := decide_eq_false hst
            have HT : Hid (s = stampTo l v (k + 1)) := Lib.hid (by rw [HMX.out]; omega)
            go_upto_region 5 with (fail)
            refine qRegion (fun w' => w'.cell? ⟨w.heap.size + 1, k, none⟩ = some (.int .u64 (m : Int)) ∧ w'.cell? ⟨w.heap.size, k, none⟩ = some (.slice (some ⟨b, off, none⟩) n (u k).c) ∧ w'.cell? ⟨b, off + d * 12 + 2, none⟩ = some (.int .u64 (t : Int)) ∧ Gr W w') (by kernel_rfl) (by kernel_rfl) ⟨(Gr.refl _).drew.cell HCV.out, (Gr.refl _).drew.cell HCL2.out, HGR.out.drew.cell HC2.out, HGR.out.drew⟩ ?_
            iterate 29
              refine qTake (by kernel_rfl) ?_
              apply Exists.intro
              refine ⟨fun wq hq => ?_, ?_⟩
              · go_light
                obtain ⟨e0, e1, e2, -⟩ := hq
                go_simp
                try with_reducible rfl
                done
              try simp only [Act.put, List.setIfInBounds_toArray, List.set_cons_zero, List.set_cons_succ]
            refine qNil ?_
            rintro w3 ⟨-, -, -, hg3⟩
            have HG3 := Lib.hid hg3
            clear hg3
            go_wp2_with fail
            go_roundw
            case measure => simp [intOf]; omega
            case rel => exact ⟨k + 1, by omega, by go_num, by rw [← HT.out], HG3.out⟩
        · have hmnd : decide (m ≤ n) = false := decide_eq_false hmn
          have HT : Hid (s = stampTo l v (k + 1)) := Lib.hid (by rw [stampTo_skip (Or.inr (by rw [← HM.out, ← HN.out]; omega))]; exact HS.out)
          go_upto_region 5 with (fail)
          refine qRegion (fun w' => w'.cell? ⟨w.heap.size + 1, k, none⟩ = some (.int .u64 (m : Int)) ∧ w'.cell? ⟨w.heap.size, k, none⟩ = some (.slice (u k).a n (u k).c) ∧ Gr W w') (by kernel_rfl) (by kernel_rfl) ⟨(Gr.refl _).drew.cell HCV.out, (Gr.refl _).drew.cell HCL.out, HGR.out.drew⟩ ?_
          iterate 16
            refine qTake (by kernel_rfl) ?_
            apply Exists.intro
            refine ⟨fun wq hq => ?_, ?_⟩
            · go_light
              obtain ⟨e0, e1, -⟩ := hq
              go_simp
              try with_reducible rfl
              done
            try simp only [Act.put, List.setIfInBounds_toArray, List.set_cons_zero, List.set_cons_succ]
          iterate 12
            refine qSkip (by kernel_rfl) ?_
            try simp only [Act.put, List.setIfInBounds_toArray, List.set_cons_zero, List.set_cons_succ]
          iterate 1
            refine qTake (by kernel_rfl) ?_
            apply Exists.intro
            refine ⟨fun wq hq => ?_, ?_⟩
            · go_light
              obtain ⟨e0, e1, -⟩ := hq
              go_simp
              try with_reducible rfl
              done
            try simp only [Act.put, List.setIfInBounds_toArray, List.set_cons_zero, List.set_cons_succ]
          refine qNil ?_
          rintro w3 ⟨-, -, hg3⟩
          have HG3 := Lib.hid hg3
          clear hg3
          go_wp2_with fail
          go_roundw
          case measure => simp [intOf]; omega
          case rel => exact ⟨k + 1, by omega, by go_num, by rw [← HT.out], HG3.out⟩
    · obtain rfl : k = 8 := by omega
      have HGR := Lib.hid hgr
      clear hgr
      go_wp2_with fail
      go_ret
      exact ⟨rfl, HG.out.trans HGR.out⟩
end Go.Proofs.Ytlihcjlonafohaa
