/- Texts CutC, CutP, ValO, joined. -/
import Derived.Test.YtaldgjcbbjjceaaG08
/- Walks: the program's Closed. -/
namespace Go.Proofs.Ytaldgjcbbjjceaa
open Go.RowKit Go.Joins

/-- The transactions of the first k logs, as far as the cut goes, depend on nothing beyond it. -/
def closedTo (l : LG) (v : Nat → Nat) (k : Nat) : Prop := ∀ i d t, i < k → d < v i → (l i)[d]? = some t → leqB t.deps v = true
def closedIn (l : LG) (v : Nat → Nat) (i k : Nat) : Prop := ∀ d t, d < k → (l i)[d]? = some t → leqB t.deps v = true
theorem closedTo_next {l : LG} {v : Nat → Nat} {k : Nat} (h : closedTo l v k) (h2 : closedIn l v k (v k)) : closedTo l v (k + 1) := fun i d t hi hd ht => by
  by_cases e : i = k
  · subst e; exact h2 d t hd ht
  · exact h i d t (by omega) hd ht
theorem closedIn_next {l : LG} {v : Nat → Nat} {i d : Nat} {t : TX} (h : closedIn l v i d) (ht : (l i)[d]? = some t) (h2 : leqB t.deps v = true) : closedIn l v i (d + 1) := fun e u he hu => by
  by_cases q : e = d
  · subst q
    rw [ht] at hu
    injection hu with hu
    rw [← hu]; exact h2
  · exact h e u (by omega) hu
theorem closedB_no {l : LG} {v : Nat → Nat} (h : ¬ closedP l v) : closedB l v = false := by
  rw [Bool.eq_false_iff]
  exact fun e => h (closedB_iff.1 e)
theorem closedB_yes {l : LG} {v : Nat → Nat} (h : closedP l v) : closedB l v = true := closedB_iff.2 h
set_option maxRecDepth 100000 in
theorem slice_txs (A : Option Addr) {n c k : Nat} (hk : k ≤ c) (W : World) : (Instr.slice 22 (.slice A n c) none (some (.int .u64 (k : Int))) none).run Try.prog W = .ok (.slice A k c) W := by
  have hz : ∀ W : World, (sizeOf (Try.prog.elem 22)).run Try.prog W = .ok 12 W := fun W => by show _ = _; kernel_rfl
  rw [run_slice_h W _ A n c Try.underlying22 .u64 (k : Int) (by omega) (by omega), hz]
  show Result.ok (sliced A 0 (k : Int).toNat c 12) W = _
  unfold sliced
  rw [Int.toNat_natCast]
  cases A with
  | none => simp
  | some a => simp [Addr.add]
theorem LV.cap {w : World} {u : Nat → S3} {l : LG} (h : LV w u l) {i : Nat} (hi : i < 8) : (l i).length ≤ (u i).c ∧ (u i).c ≤ maxLen := by
  obtain ⟨A, c, hv, h1, ⟨h2, _⟩, _⟩ := h i hi
  injection hv with e1 e2 e3
  rw [e3]
  exact ⟨h1, h2⟩

set_option maxRecDepth 100000 in
set_option maxHeartbeats 2000000 in
theorem closed_any (u : Nat → S3) (l : LG) (v : Nat → Nat) (w : World) (h : LV w u l) :
    Calls Try.prog 30 #[.agg (lcells u), .agg (vcells v)] w fun e w' => e = .returned (.bool (closedB l v)) ∧ Gr w w' := by
  obtain ⟨W, hW, hg, hsz, hL, hV⟩ := boxesLV u v w
  have HL := Lib.hid hL
  have HV := Lib.hid hV
  have HG := Lib.hid hg
  have HX := Lib.hid (h.gr hg)
  have HSZ := Lib.hid (fun w1 (g : Gr W w1) => size_any u l w1 ((h.gr hg).gr g))
  have HLQ := Lib.hid (fun w1 => leq_any v (sizeV l) w1)
  obtain ⟨r, hr⟩ : ∃ r, r = leqB v (sizeV l) := ⟨_, rfl⟩
  rw [← hr] at HLQ
  have HR0 := Lib.hid hr
  clear hL hV hg hsz h hr
  go_enter Try.func30, Try.ntmps30
  go_upto_region 1 with (fail)
  rw [← hW]
  clear hW
  refine qRegion (fun w' => LC w' w.heap.size u ∧ VC w' (w.heap.size + 1) v ∧ Gr W w') (by kernel_rfl) (by kernel_rfl) ⟨HL.out.lc.gr (Gr.refl _).drew, HV.out.vc.gr (Gr.refl _).drew, (Gr.refl _).drew⟩ ?_
  iterate 2
    refine qTake (by kernel_rfl) ?_
    apply Exists.intro
    refine ⟨fun wq hq => ?_, ?_⟩
    · go_light
      obtain ⟨⟨l0, l1, l2, l3, l4, l5, l6, l7⟩, ⟨h0, h1, h2, h3, h4, h5, h6, h7⟩, hg⟩ := hq
      go_simp
      try with_reducible rfl
      done
    try simp only [Act.put, List.setIfInBounds_toArray, List.set_cons_zero, List.set_cons_succ]
  refine qCall (by kernel_rfl) ?_
  apply Exists.intro
  refine ⟨?_, ?_⟩
  · apply Exists.intro
    apply Exists.intro
    refine ⟨fun wq => ?_, fun wq hq => ?_⟩
    · go_light
      go_simp
      exact ⟨rfl, rfl⟩
    · exact (HSZ.out wq hq.2.2).mono fun e w'' ⟨he, hg⟩ => ⟨he, hq.1.gr hg, hq.2.1.gr hg, hq.2.2.trans hg⟩
  try simp only [Act.put, List.setIfInBounds_toArray, List.set_cons_zero, List.set_cons_succ]
  refine qCall (by kernel_rfl) ?_
  apply Exists.intro
  refine ⟨?_, ?_⟩
  · apply Exists.intro
    apply Exists.intro
    refine ⟨fun wq => ?_, fun wq hq => ?_⟩
    · go_light
      go_simp
      exact ⟨rfl, rfl⟩
    · exact (HLQ.out wq).mono fun e w'' ⟨he, hg⟩ => ⟨he, hq.1.gr hg, hq.2.1.gr hg, hq.2.2.trans hg⟩
  try simp only [Act.put, List.setIfInBounds_toArray, List.set_cons_zero, List.set_cons_succ]
  iterate 1
    refine qTake (by kernel_rfl) ?_
    apply Exists.intro
    refine ⟨fun wq hq => ?_, ?_⟩
    · go_light
      obtain ⟨⟨l0, l1, l2, l3, l4, l5, l6, l7⟩, ⟨h0, h1, h2, h3, h4, h5, h6, h7⟩, hg⟩ := hq
      go_simp
      try with_reducible rfl
      done
    try simp only [Act.put, List.setIfInBounds_toArray, List.set_cons_zero, List.set_cons_succ]
  refine qNil ?_
  rintro w3 ⟨hl3, hx3, hg3⟩
  have HG3 := Lib.hid hg3
  clear hx3 hg3
  rcases r with _ | _
  · have HF := Lib.hid (closedB_no (l := l) (v := v) fun hc => by have := hc.1; rw [← HR0.out] at this; cases this)
    clear hl3
    go_wp2_with fail
    go_ret
    exact ⟨by rw [HF.out]; rfl, HG.out.trans HG3.out⟩
  · have HR := Lib.hid HR0.out.symm
    simp only [Bool.not_true]
    obtain ⟨l0, l1, l2, l3, l4, l5, l6, l7⟩ := hl3
    go_wp2_with fail
    clear l0 l1 l2 l3 l4 l5 l6 l7
    go_loopw [15] (fun i wr => ∃ k : Nat, k ≤ 8 ∧ i = .int .i64 k ∧ Hid (closedTo l v k) ∧ Gr W wr) (fun i _ => 8 - (intOf i).toNat)
    case atStart => exact ⟨0, by decide, rfl, Lib.hid (fun i d t hi => absurd hi (Nat.not_lt_zero _)), HG3.out⟩
    case round =>
      obtain ⟨k, hk, rfl, hct, hgr⟩ := hrel
      rename World => wo
      by_cases hlt : k < 8
      · have hk0 : (0 : Int) ≤ (k : Int) := Int.natCast_nonneg _
        have hk8 : (k : Int) < 8 := by omega
        have hc := (HV.out.gr hgr).at hlt
        have hn := HX.out.len hlt
        have hvl : v k ≤ (l k).length := lq HR.out hlt
        obtain ⟨hcap, hcm⟩ := HX.out.cap hlt
        have hle := HX.out.le hlt
        have hix := fun W => run_index_logs u hlt W
        obtain ⟨A, hA⟩ : ∃ A, A = (u k).a := ⟨_, rfl⟩
        rw [← hA] at hix
        have HA := Lib.hid hA
        have hsl := fun W => slice_txs A (n := (u k).n) (k := v k) (c := (u k).c) (by omega) W
        clear hA
        have HGR := Lib.hid hgr
        clear hgr
        go_wp2_with fail
        go_loopw [25] (fun i wx => ∃ d : Nat, d ≤ v k ∧ i = .int .i64 d ∧ Hid (closedIn l v k d) ∧ Gr wo wx) (fun i _ => v k - (intOf i).toNat)
        case atStart => exact ⟨0, Nat.zero_le _, rfl, Lib.hid (fun d t hd => absurd hd (Nat.not_lt_zero _)), Gr.refl _⟩
        case round =>
          obtain ⟨d, hd, rfl, hci, hgx⟩ := hrel
          rename World => wx
          by_cases hdv : d < v k
          · have hdl : d < (l k).length := by omega
            obtain ⟨b, off, ha, xv, hx0, hx⟩ := (HX.out.gr (HGR.out.trans hgx)).cell hlt hdl
            rw [← HA.out] at ha
            subst ha
            obtain ⟨t, ht⟩ : ∃ t, t = (l k)[d] := ⟨_, rfl⟩
            rw [← ht] at hx0 hx
            obtain ⟨Ax, cx, rfl⟩ := tov_form hx0
            obtain ⟨nx, hnx⟩ : ∃ n, n = t.ops.length := ⟨_, rfl⟩
            rw [← hnx] at hx
            obtain ⟨x0, x1, x2, x3, x4, x5, x6, x7, x8, x9, x10, x11⟩ := hx
            obtain ⟨W5, hW5, hg5, hx5⟩ := xbox wx t (.slice Ax nx cx)
            have HV5 := Lib.hid ((HV.out.gr (HGR.out.trans (hgx.trans hg5))).vc)
            have HG5 := Lib.hid (hgx.trans hg5)
            have HT := Lib.hid (show (l k)[d]? = some t by rw [ht]; exact List.getElem?_eq_getElem hdl)
            have HLT := Lib.hid (fun w1 => leq_any t.deps v w1)
            obtain ⟨r, hr⟩ : ∃ r, r = leqB t.deps v := ⟨_, rfl⟩
            rw [← hr] at HLT
            have HRT := Lib.hid hr
            have hd0 : (0 : Int) ≤ (d : Int) := by omega
            have hd1 : (d : Int) < (v k : Int) := by omega
            clear hx0 ht hnx hgx hg5 hr hc hix hsl
            go_upto_region 9 with (fail)
            rw [← hW5]
            clear hW5 x0 x1 x2 x3 x4 x5 x6 x7 x8 x9 x10 x11
            obtain ⟨y0, y1, y2, y3, y4, y5, y6, y7⟩ := HV5.out
            obtain ⟨p0, p1, p2, p3, p4, p5, p6, p7, p8, p9, p10, p11⟩ := hx5
            go_wp2_with fail
            refine (HLT.out _).mono ?_
            rintro e w6 ⟨rfl, g6⟩
            have HG6 := Lib.hid (HG5.out.trans g6)
            clear g6 y0 y1 y2 y3 y4 y5 y6 y7 p0 p1 p2 p3 p4 p5 p6 p7 p8 p9 p10 p11
            rcases r with _ | _
            · have HF := Lib.hid (closedB_no (l := l) (v := v) fun hc => by have := hc.2 k d t hlt hdv HT.out; rw [← HRT.out] at this; cases this)
              go_wp2_with fail
              go_ret
              exact ⟨by rw [HF.out]; rfl, HG.out.trans (HGR.out.trans HG6.out)⟩
            · have HC2 := Lib.hid (closedIn_next hci.out HT.out HRT.out.symm)
              go_wp2_with fail
              go_roundw
              case measure => simp [intOf]; omega
              case rel => exact ⟨d + 1, by omega, by go_num, HC2, HG6.out⟩
          · obtain rfl : d = v k := by omega
            have HC2 := Lib.hid (closedTo_next hct.out hci.out)
            have HG6 := Lib.hid (HGR.out.trans hgx)
            clear hgx
            go_wp2_with fail
            go_roundw
            case measure => simp [intOf]; omega
            case rel => exact ⟨k + 1, by omega, by go_num, HC2, HG6.out⟩
      · obtain rfl : k = 8 := by omega
        have HF := Lib.hid (closedB_yes (l := l) (v := v) ⟨HR.out, hct.out⟩)
        have HGR := Lib.hid hgr
        clear hgr
        go_wp2_with fail
        go_ret
        exact ⟨by rw [HF.out]; rfl, HG.out.trans HGR.out⟩
end Go.Proofs.Ytaldgjcbbjjceaa
/- Walks: the document's Size, Stamp, Check, Same. -/
namespace Go.Proofs.Ytaldgjcbbjjceaa
open Go.RowKit Go.Joins

set_option maxRecDepth 100000 in
set_option maxHeartbeats 2000000 in
theorem rsize_any (u : Nat → S3) (l : LG) (w : World) (h : LV w u l) :
    Calls Try.prog 18 #[.agg (lcells u)] w fun e w' => e = .returned (.agg (vcells (sizeV l))) ∧ Gr w w' := by
  obtain ⟨W, hW, hg, hsz, hL, hR, hV⟩ := boxesSz u w
  have HL := Lib.hid hL
  have HR := Lib.hid hR
  have HV := Lib.hid hV
  have HG := Lib.hid hg
  have HN := Lib.hid (fun k (hk : k < 8) => h.len hk)
  have HLE := Lib.hid (fun k (hk : k < 8) => h.le hk)
  clear hL hR hV hg hsz h
  go_enter Try.func18, Try.ntmps18
  go_upto_region 2 with (fail)
  rw [← hW]
  clear hW
  go_wp2_with fail
  go_loopw [4] (fun i wr => ∃ k : Nat, k ≤ 8 ∧ i = .int .i64 k ∧ VBox wr (w.heap.size + 1 + 1) (szTo l k) ∧ VBox wr (w.heap.size + 1) (fun _ => 0) ∧ LBox wr w.heap.size u ∧ Gr w wr) (fun i _ => 8 - (intOf i).toNat)
  case atStart => exact ⟨0, by decide, rfl, HV.out, HR.out, HL.out, HG.out⟩
  case round =>
    obtain ⟨k, hk, rfl, hV, hR, hL, hgr⟩ := hrel
    rename World => wr
    by_cases hlt : k < 8
    · have hk0 : (0 : Int) ≤ (k : Int) := Int.natCast_nonneg _
      have hk8 : (k : Int) < 8 := by omega
      have hc := hV.at hlt
      have hl := hL.at hlt
      have hfz : wr.frozen? ⟨w.heap.size + 1 + 1, k, none⟩ = false := unfrozen_of_block hV.box k
      have hw := u64_len (HLE.out k hlt)
      rw [HN.out k hlt] at hl
      have HV2 := Lib.hid hV
      have HR2 := Lib.hid hR
      have HL2 := Lib.hid hL
      have HG2 := Lib.hid hgr
      clear hV hR hL hgr
      go_wp2_with fail
      go_roundw
      case measure => simp [intOf]; omega
      case rel =>
        refine ⟨k + 1, by omega, by go_num, ?_, HR2.out.far (by simp) _, HL2.out.far (by simp only []; omega) _, Gr.setCell HG2.out (by simp; omega) _⟩
        rw [← szTo_next]
        exact HV2.out.set hlt _
    · obtain rfl : k = 8 := by omega
      obtain ⟨s0, s1, s2, s3, s4, s5, s6, s7⟩ := hV.all
      obtain ⟨r0, r1, r2, r3, r4, r5, r6, r7⟩ := hR.zero
      obtain ⟨f0, f1, f2, f3, f4, f5, f6, f7⟩ := hR.fz
      have HG2 := Lib.hid hgr
      clear hV hR hL hgr
      go_wp2_with fail
      exact bodyPost_ret (v := .agg (vcells (szTo l 8))) (by simp [results, Try.results18, go_sem, *]) rfl ⟨rfl, by as_aux_lemma => (iterate 8 (with_reducible refine Gr.setCell ?_ (Nat.le_succ _) _)); exact HG2.out⟩
/-- The same logs? -/
def sameLG (a b : LG) : Bool := (List.range 8).all fun i => sameL (a i) (b i)
theorem sameLG_iff {a b : LG} : sameLG a b = true ↔ ∀ i, i < 8 → sameL (a i) (b i) = true := by simp [sameLG]
theorem sameLG_self (a : LG) : sameLG a a = true := sameLG_iff.2 fun _ _ => sameL_self _
theorem sameLG_of {a b : LG} (h : ∀ i, i < 8 → a i = b i) : sameLG a b = true := sameLG_iff.2 fun i hi => by rw [h i hi]; exact sameL_self _
theorem sameLG_no {a b : LG} {i : Nat} (hi : i < 8) (h : sameL (a i) (b i) = false) : sameLG a b = false := by
  rw [Bool.eq_false_iff]
  intro e
  rw [sameLG_iff.1 e i hi] at h
  cases h
theorem boxesLL (u v : Nat → S3) (w : World) : ∃ W, W = (w.alloc (.cells (lcells u) 24)).alloc (.cells (lcells v) 24) ∧ Gr w W ∧ W.heap.size = w.heap.size + 2 ∧
    LBox W w.heap.size u ∧ LBox W (w.heap.size + 1) v := by
  refine ⟨_, rfl, ((Gr.refl w).alloc _).alloc _, by simp, ⟨?_⟩, ⟨?_⟩⟩
  all_goals (simp only [World.alloc, Array.getElem?_push, Array.size_push]; simp)
set_option maxRecDepth 100000 in
set_option maxHeartbeats 2000000 in
theorem rsame9_any (u v : Nat → S3) (a b : LG) (w : World) (ha : LV w u a) (hb : LV w v b) :
    Calls Try.prog 15 #[.agg (lcells u), .agg (lcells v)] w fun e w' => e = .returned (.bool (sameLG a b)) ∧ Gr w w' := by
  obtain ⟨W, hW, hg, hsz, hA, hB⟩ := boxesLL u v w
  have HA := Lib.hid hA
  have HB := Lib.hid hB
  have HG := Lib.hid hg
  have HS := Lib.hid (fun k (hk : k < 8) w1 (g : Gr W w1) => rsameL_any _ _ _ _ w1 ((ha.gr hg).gr g k hk) ((hb.gr hg).gr g k hk))
  clear hA hB hg hsz ha hb
  go_enter Try.func15, Try.ntmps15
  go_upto_region 1 with (fail)
  rw [← hW]
  clear hW
  go_wp2_with fail
  go_loopw [5] (fun i wr => ∃ k : Nat, k ≤ 8 ∧ i = .int .i64 k ∧ Hid (∀ j, j < k → sameL (a j) (b j) = true) ∧ Gr W wr) (fun i _ => 8 - (intOf i).toNat)
  case atStart => exact ⟨0, by decide, rfl, Lib.hid (fun j hj => absurd hj (Nat.not_lt_zero _)), Gr.refl _⟩
  case round =>
    obtain ⟨k, hk, rfl, hall, hgr⟩ := hrel
    rename World => wr
    by_cases hlt : k < 8
    · have hk0 : (0 : Int) ≤ (k : Int) := Int.natCast_nonneg _
      have hk8 : (k : Int) < 8 := by omega
      obtain ⟨r, hr⟩ : ∃ r, r = sameL (a k) (b k) := ⟨_, rfl⟩
      have HK := Lib.hid (fun w1 (g : Gr W w1) => HS.out k hlt w1 g)
      rw [← hr] at HK
      have HR := Lib.hid hr
      have hca := (HA.out.gr hgr).at hlt
      have hcb := (HB.out.gr hgr).at hlt
      have HCA := Lib.hid hca
      have HCB := Lib.hid hcb
      have HGR := Lib.hid hgr
      clear hr hca hcb hgr
      go_upto_region 4 with (fail)
      refine qRegion (fun w' => w'.cell? ⟨w.heap.size, k, none⟩ = some (.slice (u k).a (u k).n (u k).c) ∧ w'.cell? ⟨w.heap.size + 1, k, none⟩ = some (.slice (v k).a (v k).n (v k).c) ∧ Gr W w') (by kernel_rfl) (by kernel_rfl) ⟨(Gr.refl _).drew.cell HCA.out, (Gr.refl _).drew.cell HCB.out, HGR.out.drew⟩ ?_
      iterate 6
        refine qTake (by kernel_rfl) ?_
        apply Exists.intro
        refine ⟨fun wq hq => ?_, ?_⟩
        · go_light
          obtain ⟨e0, e1, -⟩ := hq
          go_simp
          try with_reducible rfl
          done
        try simp only [Act.put, List.setIfInBounds_toArray, List.set_cons_zero, List.set_cons_succ]
      refine qCall (by kernel_rfl) ?_
      apply Exists.intro
      refine ⟨?_, ?_⟩
      · apply Exists.intro
        apply Exists.intro
        refine ⟨fun wq => ?_, fun wq hq => ?_⟩
        · go_light
          go_simp
          exact ⟨rfl, rfl⟩
        · exact (HK.out wq hq.2.2).mono fun e w'' ⟨he, hg⟩ => ⟨he, hg.cell hq.1, hg.cell hq.2.1, hq.2.2.trans hg⟩
      try simp only [Act.put, List.setIfInBounds_toArray, List.set_cons_zero, List.set_cons_succ]
      iterate 1
        refine qTake (by kernel_rfl) ?_
        apply Exists.intro
        refine ⟨fun wq hq => ?_, ?_⟩
        · go_light
          obtain ⟨e0, e1, -⟩ := hq
          go_simp
          try with_reducible rfl
          done
        try simp only [Act.put, List.setIfInBounds_toArray, List.set_cons_zero, List.set_cons_succ]
      refine qNil ?_
      rintro w3 ⟨-, -, hg3⟩
      have HG3 := Lib.hid hg3
      clear hg3
      rcases r with _ | _
      · have HF := Lib.hid (sameLG_no hlt HR.out.symm)
        go_wp2_with fail
        go_ret
        exact ⟨by rw [HF.out]; rfl, HG.out.trans HG3.out⟩
      · have HAL : Hid (∀ j, j < k + 1 → sameL (a j) (b j) = true) := Lib.hid fun j hj => by
          by_cases q : j = k
          · rw [q]; exact HR.out.symm
          · exact hall.out j (by omega)
        go_wp2_with fail
        go_roundw
        case measure => simp [intOf]; omega
        case rel => exact ⟨k + 1, by omega, by go_num, HAL, HG3.out⟩
    · obtain rfl : k = 8 := by omega
      have HF := Lib.hid (sameLG_iff.2 hall.out)
      have HGR := Lib.hid hgr
      clear hgr
      go_wp2_with fail
      go_ret
      exact ⟨by rw [HF.out]; rfl, HG.out.trans HGR.out⟩
end Go.Proofs.Ytaldgjcbbjjceaa
/- Walks: the document's Closed. -/
namespace Go.Proofs.Ytaldgjcbbjjceaa
open Go.RowKit Go.Joins
set_option linter.unusedSimpArgs false
set_option linter.unusedVariables false

set_option maxRecDepth 100000 in
set_option maxHeartbeats 2000000 in
theorem rclosed_any (u : Nat → S3) (l : LG) (v : Nat → Nat) (w : World) (h : LV w u l) :
    Calls Try.prog 33 #[.agg (lcells u), .agg (vcells v)] w fun e w' => e = .returned (.bool (closedB l v)) ∧ Gr w w' := by
  obtain ⟨W, hW, hg, hsz, hL, hV⟩ := boxesLV u v w
  have HL := Lib.hid hL
  have HV := Lib.hid hV
  have HG := Lib.hid hg
  have HX := Lib.hid (h.gr hg)
  have HSZ := Lib.hid (fun w1 (g : Gr W w1) => rsize_any u l w1 ((h.gr hg).gr g))
  have HLQ := Lib.hid (fun w1 => rleq_any v (sizeV l) w1)
  obtain ⟨r, hr⟩ : ∃ r, r = leqB v (sizeV l) := ⟨_, rfl⟩
  rw [← hr] at HLQ
  have HR0 := Lib.hid hr
  clear hL hV hg hsz h hr
  go_enter Try.func33, Try.ntmps33
  go_upto_region 1 with (fail)
  rw [← hW]
  clear hW
  refine qRegion (fun w' => LC w' w.heap.size u ∧ VC w' (w.heap.size + 1) v ∧ Gr W w') (by kernel_rfl) (by kernel_rfl) ⟨HL.out.lc.gr (Gr.refl _).drew, HV.out.vc.gr (Gr.refl _).drew, (Gr.refl _).drew⟩ ?_
  iterate 2
    refine qTake (by kernel_rfl) ?_
    apply Exists.intro
    refine ⟨fun wq hq => ?_, ?_⟩
    · go_light
      obtain ⟨⟨l0, l1, l2, l3, l4, l5, l6, l7⟩, ⟨h0, h1, h2, h3, h4, h5, h6, h7⟩, hg⟩ := hq
      go_simp
      try with_reducible rfl
      done
    try simp only [Act.put, List.setIfInBounds_toArray, List.set_cons_zero, List.set_cons_succ]
  refine qCall (by kernel_rfl) ?_
  apply Exists.intro
  refine ⟨?_, ?_⟩
  · apply Exists.intro
    apply Exists.intro
    refine ⟨fun wq => ?_, fun wq hq => ?_⟩
    · go_light
      go_simp
      exact ⟨rfl, rfl⟩
    · exact (HSZ.out wq hq.2.2).mono fun e w'' ⟨he, hg⟩ => ⟨he, hq.1.gr hg, hq.2.1.gr hg, hq.2.2.trans hg⟩
  try simp only [Act.put, List.setIfInBounds_toArray, List.set_cons_zero, List.set_cons_succ]
  refine qCall (by kernel_rfl) ?_
  apply Exists.intro
  refine ⟨?_, ?_⟩
  · apply Exists.intro
    apply Exists.intro
    refine ⟨fun wq => ?_, fun wq hq => ?_⟩
    · go_light
      go_simp
      exact ⟨rfl, rfl⟩
    · exact (HLQ.out wq).mono fun e w'' ⟨he, hg⟩ => ⟨he, hq.1.gr hg, hq.2.1.gr hg, hq.2.2.trans hg⟩
  try simp only [Act.put, List.setIfInBounds_toArray, List.set_cons_zero, List.set_cons_succ]
  iterate 1
    refine qTake (by kernel_rfl) ?_
    apply Exists.intro
    refine ⟨fun wq hq => ?_, ?_⟩
    · go_light
      obtain ⟨⟨l0, l1, l2, l3, l4, l5, l6, l7⟩, ⟨h0, h1, h2, h3, h4, h5, h6, h7⟩, hg⟩ := hq
      go_simp
      try with_reducible rfl
      done
    try simp only [Act.put, List.setIfInBounds_toArray, List.set_cons_zero, List.set_cons_succ]
  refine qNil ?_
  rintro w3 ⟨hl3, hx3, hg3⟩
  have HG3 := Lib.hid hg3
  clear hx3 hg3
  rcases r with _ | _
  · have HF := Lib.hid (closedB_no (l := l) (v := v) fun hc => by have := hc.1; rw [← HR0.out] at this; cases this)
    clear hl3
    go_wp2_with fail
    go_ret
    exact ⟨by rw [HF.out]; rfl, HG.out.trans HG3.out⟩
  · have HR := Lib.hid HR0.out.symm
    simp only [Bool.not_true]
    clear hl3
    go_wp2_with fail
    go_loopw [5, 6] (fun i _ wr => ∃ k : Nat, k ≤ 8 ∧ i = .int .i64 k ∧ Hid (closedTo l v k) ∧ Gr W wr) (fun i _ _ => 8 - (intOf i).toNat)
    case atStart => exact ⟨0, by decide, rfl, Lib.hid (fun i d t hi => absurd hi (Nat.not_lt_zero _)), HG3.out⟩
    case round =>
      obtain ⟨k, hk, rfl, hct, hgr⟩ := hrel
      rename World => wo
      by_cases hlt : k < 8
      · have hk0 : (0 : Int) ≤ (k : Int) := Int.natCast_nonneg _
        have hk8 : (k : Int) < 8 := by omega
        have hvl : v k ≤ (l k).length := lq HR.out hlt
        obtain ⟨A, hA⟩ : ∃ A, A = (u k).a := ⟨_, rfl⟩
        obtain ⟨n, hn⟩ : ∃ n, n = (u k).n := ⟨_, rfl⟩
        obtain ⟨c, hc⟩ : ∃ c, c = (u k).c := ⟨_, rfl⟩
        have hnl : n = (l k).length := by rw [hn]; exact HX.out.len hlt
        have hcell := (HL.out.gr hgr).at hlt
        rw [← hA, ← hn, ← hc] at hcell
        have HCE := Lib.hid hcell
        have HA := Lib.hid hA
        have HGR := Lib.hid hgr
        have HVK := Lib.hid ((HV.out.gr hgr).at hlt)
        have HNL := Lib.hid hnl
        clear hgr hcell hA hn hc hnl
        go_wp2_with fail
        go_loopw [6] (fun i wx => ∃ d : Nat, d ≤ v k ∧ i = .int .u64 d ∧ Hid (closedIn l v k d) ∧ Gr wo wx) (fun i _ => v k - (intOf i).toNat)
        case atStart => exact ⟨0, Nat.zero_le _, rfl, Lib.hid (fun d t hd => absurd hd (Nat.not_lt_zero _)), Gr.refl _⟩
        case round =>
          obtain ⟨d, hd, rfl, hci, hgx⟩ := hrel
          rename World => wx
          have hvk := hgx.cell HVK.out
          by_cases hdv : d < v k
          · have hdl : d < (l k).length := by omega
            obtain ⟨b, off, ha, xv, hx0, hx⟩ := (HX.out.gr (HGR.out.trans hgx)).cell hlt hdl
            rw [← HA.out] at ha
            subst ha
            obtain ⟨t, ht⟩ : ∃ t, t = (l k)[d] := ⟨_, rfl⟩
            rw [← ht] at hx0 hx
            have HXF := Lib.hid hx
            have HV5 := Lib.hid ((HV.out.gr (HGR.out.trans hgx)).vc)
            have HC5 := Lib.hid (hgx.cell HCE.out)
            have HG5 := Lib.hid hgx
            have HT := Lib.hid (show (l k)[d]? = some t by rw [ht]; exact List.getElem?_eq_getElem hdl)
            have HLT := Lib.hid (fun w1 => rleq_any t.deps v w1)
            obtain ⟨r, hr⟩ : ∃ r, r = leqB t.deps v := ⟨_, rfl⟩
            rw [← hr] at HLT
            have HRT := Lib.hid hr
            have hd0 : (0 : Int) ≤ (d : Int) := by omega
            have hd1 : (d : Int) < (v k : Int) := by omega
            have hwu : IntKind.u64.wrap ((d : Int) + 1) = ((d + 1 : Nat) : Int) := by
              have h1 := (HX.out.cap hlt).1
              have h2 := (HX.out.cap hlt).2
              unfold maxLen at h2
              simp [IntKind.wrap, IntKind.bits, IntKind.signed]
              omega
            have hd2 : (d : Int) < (n : Int) := by have := HNL.out; omega
            clear hx0 hx ht hgx hr
            go_upto_region 9 with (fail)
            clear hvk
            refine qRegion (fun w' => w'.cell? ⟨w.heap.size, k, none⟩ = some (.slice (some ⟨b, off, none⟩) n c) ∧ XFix w' b (off + d * 12) t xv ∧ VC w' (w.heap.size + 1) v ∧ Gr wx w') (by kernel_rfl) (by kernel_rfl) ⟨(Gr.refl _).drew.cell HC5.out, HXF.out.gr (Gr.refl _).drew, HV5.out.gr (Gr.refl _).drew, (Gr.refl _).drew⟩ ?_
            iterate 8
              refine qTake (by kernel_rfl) ?_
              apply Exists.intro
              refine ⟨fun wq hq => ?_, ?_⟩
              · go_light
                obtain ⟨e0, ⟨x0, x1, x2, x3, x4, x5, x6, x7, x8, x9, x10, x11⟩, ⟨y0, y1, y2, y3, y4, y5, y6, y7⟩, hg⟩ := hq
                go_simp
                try with_reducible rfl
                done
              try simp only [Act.put, List.setIfInBounds_toArray, List.set_cons_zero, List.set_cons_succ]
            refine qCall (by kernel_rfl) ?_
            apply Exists.intro
            refine ⟨?_, ?_⟩
            · apply Exists.intro
              apply Exists.intro
              refine ⟨fun wq => ?_, fun wq hq => ?_⟩
              · go_light
                go_simp
                exact ⟨rfl, rfl⟩
              · exact (HLT.out wq).mono fun e w'' ⟨he, hg⟩ => ⟨he, hg.cell hq.1, hq.2.1.gr hg, hq.2.2.1.gr hg, hq.2.2.2.trans hg⟩
            try simp only [Act.put, List.setIfInBounds_toArray, List.set_cons_zero, List.set_cons_succ]
            iterate 1
              refine qTake (by kernel_rfl) ?_
              apply Exists.intro
              refine ⟨fun wq hq => ?_, ?_⟩
              · go_light
                obtain ⟨e0, ⟨x0, x1, x2, x3, x4, x5, x6, x7, x8, x9, x10, x11⟩, ⟨y0, y1, y2, y3, y4, y5, y6, y7⟩, hg⟩ := hq
                go_simp
                try with_reducible rfl
                done
              try simp only [Act.put, List.setIfInBounds_toArray, List.set_cons_zero, List.set_cons_succ]
            refine qNil ?_
            rintro w6 ⟨-, -, -, g6⟩
            have HG6 := Lib.hid (HG5.out.trans g6)
            clear g6
            rcases r with _ | _
            · have HF := Lib.hid (closedB_no (l := l) (v := v) fun hc => by have := hc.2 k d t hlt hdv HT.out; rw [← HRT.out] at this; cases this)
              go_wp2_with fail
              go_ret
              exact ⟨by rw [HF.out]; rfl, HG.out.trans (HGR.out.trans HG6.out)⟩
            · have HC2 := Lib.hid (closedIn_next hci.out HT.out HRT.out.symm)
              simp only [Bool.not_true]
              go_wp2_with fail
              go_roundw
              case measure => simp [intOf]; omega
              case rel => exact ⟨d + 1, by omega, by go_num, HC2, HG6.out⟩
          · obtain rfl : d = v k := by omega
            have HC2 := Lib.hid (closedTo_next hct.out hci.out)
            have HG6 := Lib.hid (HGR.out.trans hgx)
            clear hgx
            go_wp2_with fail
            go_roundw
            case measure => simp [intOf]; omega
            case rel => exact ⟨k + 1, by omega, by go_num, HC2, HG6.out⟩
      · obtain rfl : k = 8 := by omega
        have HF := Lib.hid (closedB_yes (l := l) (v := v) ⟨HR.out, hct.out⟩)
        have HGR := Lib.hid hgr
        clear hgr
        go_wp2_with fail
        go_ret
        exact ⟨by rw [HF.out]; rfl, HG.out.trans HGR.out⟩
end Go.Proofs.Ytaldgjcbbjjceaa
