/- Texts CutP, CutJ, joined. -/
import Derived.Test.YtjpiemgpbakfaaaG10
import Derived.Test.YtjpiemgpbakfaaaG19
/- Walks: the document's Size, Stamp, Check, Same. -/
namespace Go.Proofs.Ytjpiemgpbakfaaa
open Go.RowKit Go.Joins

set_option maxRecDepth 100000 in
set_option maxHeartbeats 2000000 in
theorem rsize_any (u : Nat → S3) (l : LG) (w : World) (h : LV w u l) :
    Calls Try.prog 8 #[.agg (lcells u)] w fun e w' => e = .returned (.agg (vcells (sizeV l))) ∧ Gr w w' := by
  obtain ⟨W, hW, hg, hsz, hL, hR, hV⟩ := boxesSz u w
  have HL := Lib.hid hL
  have HR := Lib.hid hR
  have HV := Lib.hid hV
  have HG := Lib.hid hg
  have HN := Lib.hid (fun k (hk : k < 8) => h.len hk)
  have HLE := Lib.hid (fun k (hk : k < 8) => h.le hk)
  clear hL hR hV hg hsz h
  go_enter Try.func8, Try.ntmps8
  go_upto_region 2 with (fail)
  rw [← hW]
  clear hW
  go_wp2_with fail
  go_loopw [4] (fun i wr => ∃ k : Nat, k ≤ 8 ∧ i = .int .i64 k ∧ VBox wr (w.heap.size + 1 + 1) (szTo l k) ∧ VBox wr (w.heap.size + 1) (fun _ => 0) ∧ LBox wr w.heap.size u ∧ Gr w wr) (fun i _ => 8 - (intOf i).toNat)
  case atStart => exact ⟨0, by decide, rfl, HV.out, HR.out, HL.out, HG.out⟩
  case round =>
    obtain ⟨k, hk, rfl, hV, hR, hL, hgr⟩ := hrel
    rename World => wr
    by_cases hlt : k < 8
    · have hk0 : (0 : Int) ≤ (k : Int) := Int.natCast_nonneg _
      have hk8 : (k : Int) < 8 := by omega
      have hc := hV.at hlt
      have hl := hL.at hlt
      have hfz : wr.frozen? ⟨w.heap.size + 1 + 1, k, none⟩ = false := unfrozen_of_block hV.box k
      have hw := u64_len (HLE.out k hlt)
      rw [HN.out k hlt] at hl
      have HV2 := Lib.hid hV
      have HR2 := Lib.hid hR
      have HL2 := Lib.hid hL
      have HG2 := Lib.hid hgr
      clear hV hR hL hgr
      go_wp2_with fail
      go_roundw
      case measure => simp [intOf]; omega
      case rel =>
        refine ⟨k + 1, by omega, by go_num, ?_, HR2.out.far (by simp) _, HL2.out.far (by simp only []; omega) _, Gr.setCell HG2.out (by simp; omega) _⟩
        rw [← szTo_next]
        exact HV2.out.set hlt _
    · obtain rfl : k = 8 := by omega
      obtain ⟨s0, s1, s2, s3, s4, s5, s6, s7⟩ := hV.all
      obtain ⟨r0, r1, r2, r3, r4, r5, r6, r7⟩ := hR.zero
      obtain ⟨f0, f1, f2, f3, f4, f5, f6, f7⟩ := hR.fz
      have HG2 := Lib.hid hgr
      clear hV hR hL hgr
      go_wp2_with fail
      exact bodyPost_ret (v := .agg (vcells (szTo l 8))) (by simp [results, Try.results8, go_sem, *]) rfl ⟨rfl, by as_aux_lemma => (iterate 8 (with_reducible refine Gr.setCell ?_ (Nat.le_succ _) _)); exact HG2.out⟩
/-- The same logs? -/
def sameLG (a b : LG) : Bool := (List.range 8).all fun i => sameL (a i) (b i)
theorem sameLG_iff {a b : LG} : sameLG a b = true ↔ ∀ i, i < 8 → sameL (a i) (b i) = true := by simp [sameLG]
theorem sameLG_self (a : LG) : sameLG a a = true := sameLG_iff.2 fun _ _ => sameL_self _
theorem sameLG_of {a b : LG} (h : ∀ i, i < 8 → a i = b i) : sameLG a b = true := sameLG_iff.2 fun i hi => by rw [h i hi]; exact sameL_self _
theorem sameLG_no {a b : LG} {i : Nat} (hi : i < 8) (h : sameL (a i) (b i) = false) : sameLG a b = false := by
  rw [Bool.eq_false_iff]
  intro e
  rw [sameLG_iff.1 e i hi] at h
  cases h
theorem boxesLL (u v : Nat → S3) (w : World) : ∃ W, W = (w.alloc (.cells (lcells u) 24)).alloc (.cells (lcells v) 24) ∧ Gr w W ∧ W.heap.size = w.heap.size + 2 ∧
    LBox W w.heap.size u ∧ LBox W (w.heap.size + 1) v := by
  refine ⟨_, rfl, ((Gr.refl w).alloc _).alloc _, by simp, ⟨?_⟩, ⟨?_⟩⟩
  all_goals (simp only [World.alloc, Array.getElem?_push, Array.size_push]; simp)
set_option maxRecDepth 100000 in
set_option maxHeartbeats 2000000 in
theorem rsame9_any (u v : Nat → S3) (a b : LG) (w : World) (ha : LV w u a) (hb : LV w v b) :
    Calls Try.prog 11 #[.agg (lcells u), .agg (lcells v)] w fun e w' => e = .returned (.bool (sameLG a b)) ∧ Gr w w' := by
  obtain ⟨W, hW, hg, hsz, hA, hB⟩ := boxesLL u v w
  have HA := Lib.hid hA
  have HB := Lib.hid hB
  have HG := Lib.hid hg
  have HS := Lib.hid (fun k (hk : k < 8) w1 (g : Gr W w1) => rsameL_any _ _ _ _ w1 ((ha.gr hg).gr g k hk) ((hb.gr hg).gr g k hk))
  clear hA hB hg hsz ha hb
  go_enter Try.func11, Try.ntmps11
  go_upto_region 1 with (fail)
  rw [← hW]
  clear hW
  go_wp2_with fail
  go_loopw [5] (fun i wr => ∃ k : Nat, k ≤ 8 ∧ i = .int .i64 k ∧ Hid (∀ j, j < k → sameL (a j) (b j) = true) ∧ Gr W wr) (fun i _ => 8 - (intOf i).toNat)
  case atStart => exact ⟨0, by decide, rfl, Lib.hid (fun j hj => absurd hj (Nat.not_lt_zero _)), Gr.refl _⟩
  case round =>
    obtain ⟨k, hk, rfl, hall, hgr⟩ := hrel
    rename World => wr
    by_cases hlt : k < 8
    · have hk0 : (0 : Int) ≤ (k : Int) := Int.natCast_nonneg _
      have hk8 : (k : Int) < 8 := by omega
      obtain ⟨r, hr⟩ : ∃ r, r = sameL (a k) (b k) := ⟨_, rfl⟩
      have HK := Lib.hid (fun w1 (g : Gr W w1) => HS.out k hlt w1 g)
      rw [← hr] at HK
      have HR := Lib.hid hr
      have hca := (HA.out.gr hgr).at hlt
      have hcb := (HB.out.gr hgr).at hlt
      have HCA := Lib.hid hca
      have HCB := Lib.hid hcb
      have HGR := Lib.hid hgr
      clear hr hca hcb hgr
      go_upto_region 4 with (fail)
      refine qRegion (fun w' => w'.cell? ⟨w.heap.size, k, none⟩ = some (.slice (u k).a (u k).n (u k).c) ∧ w'.cell? ⟨w.heap.size + 1, k, none⟩ = some (.slice (v k).a (v k).n (v k).c) ∧ Gr W w') (by kernel_rfl) (by kernel_rfl) ⟨(Gr.refl _).drew.cell HCA.out, (Gr.refl _).drew.cell HCB.out, HGR.out.drew⟩ ?_
      iterate 6
        refine qTake (by kernel_rfl) ?_
        apply Exists.intro
        refine ⟨fun wq hq => ?_, ?_⟩
        · go_light
          obtain ⟨e0, e1, -⟩ := hq
          go_simp
          try with_reducible rfl
          done
        try simp only [Act.put, List.setIfInBounds_toArray, List.set_cons_zero, List.set_cons_succ]
      refine qCall (by kernel_rfl) ?_
      apply Exists.intro
      refine ⟨?_, ?_⟩
      · apply Exists.intro
        apply Exists.intro
        refine ⟨fun wq => ?_, fun wq hq => ?_⟩
        · go_light
          go_simp
          exact ⟨rfl, rfl⟩
        · exact (HK.out wq hq.2.2).mono fun e w'' ⟨he, hg⟩ => ⟨he, hg.cell hq.1, hg.cell hq.2.1, hq.2.2.trans hg⟩
      try simp only [Act.put, List.setIfInBounds_toArray, List.set_cons_zero, List.set_cons_succ]
      iterate 1
        refine qTake (by kernel_rfl) ?_
        apply Exists.intro
        refine ⟨fun wq hq => ?_, ?_⟩
        · go_light
          obtain ⟨e0, e1, -⟩ := hq
          go_simp
          try with_reducible rfl
          done
        try simp only [Act.put, List.setIfInBounds_toArray, List.set_cons_zero, List.set_cons_succ]
      refine qNil ?_
      rintro w3 ⟨-, -, hg3⟩
      have HG3 := Lib.hid hg3
      clear hg3
      rcases r with _ | _
      · have HF := Lib.hid (sameLG_no hlt HR.out.symm)
        go_wp2_with fail
        go_ret
        exact ⟨by rw [HF.out]; rfl, HG.out.trans HG3.out⟩
      · have HAL : Hid (∀ j, j < k + 1 → sameL (a j) (b j) = true) := Lib.hid fun j hj => by
          by_cases q : j = k
          · rw [q]; exact HR.out.symm
          · exact hall.out j (by omega)
        go_wp2_with fail
        go_roundw
        case measure => simp [intOf]; omega
        case rel => exact ⟨k + 1, by omega, by go_num, HAL, HG3.out⟩
    · obtain rfl : k = 8 := by omega
      have HF := Lib.hid (sameLG_iff.2 hall.out)
      have HGR := Lib.hid hgr
      clear hgr
      go_wp2_with fail
      go_ret
      exact ⟨by rw [HF.out]; rfl, HG.out.trans HGR.out⟩
end Go.Proofs.Ytjpiemgpbakfaaa
/- Walks: the document's Close. -/
namespace Go.Proofs.Ytjpiemgpbakfaaa
open Go.RowKit Go.Joins

/-- A transaction at this place depends on more than the cut: no closed cut within reaches it. -/
theorem close_cut {l : LG} {v0 v : Nat → Nat} {k d : Nat} {t : TX} (hk : k < 8) (ht : (l k)[d]? = some t) (h : ∀ u, closedP l u → leqB u v0 = true → leqB u v = true) (hn : leqB t.deps v = false) : ∀ u, closedP l u → leqB u v0 = true → leqB u (upd v k d) = true := by
  intro u hu h0
  have h1 := h u hu h0
  refine lq_of fun j hj => ?_
  unfold upd
  by_cases e : j = k
  · subst e
    rw [if_pos rfl]
    rcases Nat.lt_or_ge d (u j) with q | q
    · exfalso
      have := lq_trans (hu.2 j d t hj q ht) h1
      rw [hn] at this
      cases this
    · exact q
  · rw [if_neg e]
    exact lq h1 hj
/-- Of member j the first d transactions depend on nothing beyond the cut. -/
def fineTo (l : LG) (v : Nat → Nat) (j d : Nat) : Prop := ∀ e t, e < d → (l j)[e]? = some t → leqB t.deps v = true
theorem fineTo_next {l : LG} {v : Nat → Nat} {j d : Nat} {t : TX} (h : fineTo l v j d) (ht : (l j)[d]? = some t) (h2 : leqB t.deps v = true) : fineTo l v j (d + 1) := fun e x he hx => by
  by_cases q : e = d
  · subst q
    rw [ht] at hx
    injection hx with hx
    rw [← hx]; exact h2
  · exact h e x (by omega) hx
/-- What the document's Close has in memory. -/
structure ClD (w : World) (u : Nat → S3) (v : Nat → Nat) (wr : World) : Prop where
  vb : VBox wr (w.heap.size + 1) v
  z : VBox wr (w.heap.size + 1 + 1) (fun _ => 0)
  lb : LBox wr w.heap.size u
  gr : Gr w wr
theorem ClD.next {w : World} {u : Nat → S3} {v : Nat → Nat} {a b : World} (h : ClD w u v a) (g : Gr a b) : ClD w u v b := ⟨h.vb.gr g, h.z.gr g, h.lb.gr g, h.gr.trans g⟩
theorem ClD.set {w : World} {u : Nat → S3} {v : Nat → Nat} {a : World} (h : ClD w u v a) {k : Nat} (hk : k < 8) (x : Nat) : ClD w u (upd v k x) (a.setCell ⟨w.heap.size + 1, k, none⟩ (.int .u64 (x : Int))) :=
  ⟨h.vb.set hk x, h.z.far (by simp only []; omega) _, h.lb.far (by simp only []; omega) _, h.gr.setCell (by simp only []; omega) _⟩
/-- The eight cells of a transaction's vector. -/
def DC (w : World) (b o : Nat) (a : Nat → Nat) : Prop := w.cell? ⟨b, o + 3, none⟩ = some (.int .u64 (a 0 : Int)) ∧ w.cell? ⟨b, o + 4, none⟩ = some (.int .u64 (a 1 : Int)) ∧ w.cell? ⟨b, o + 5, none⟩ = some (.int .u64 (a 2 : Int)) ∧ w.cell? ⟨b, o + 6, none⟩ = some (.int .u64 (a 3 : Int)) ∧ w.cell? ⟨b, o + 7, none⟩ = some (.int .u64 (a 4 : Int)) ∧ w.cell? ⟨b, o + 8, none⟩ = some (.int .u64 (a 5 : Int)) ∧ w.cell? ⟨b, o + 9, none⟩ = some (.int .u64 (a 6 : Int)) ∧ w.cell? ⟨b, o + 10, none⟩ = some (.int .u64 (a 7 : Int))
theorem DC.gr {w w' : World} {b o : Nat} {a : Nat → Nat} (h : DC w b o a) (g : Gr w w') : DC w' b o a := by
  obtain ⟨h0, h1, h2, h3, h4, h5, h6, h7⟩ := h
  exact ⟨g.cell h0, g.cell h1, g.cell h2, g.cell h3, g.cell h4, g.cell h5, g.cell h6, g.cell h7⟩
theorem XCell.dc {w : World} {b o : Nat} {t : TX} (h : XCell w b o t) : DC w b o t.deps := by
  obtain ⟨v, -, x0, x1, x2, x3, x4, x5, x6, x7, x8, x9, x10, x11⟩ := h
  exact ⟨x3, x4, x5, x6, x7, x8, x9, x10⟩

end Go.Proofs.Ytjpiemgpbakfaaa
