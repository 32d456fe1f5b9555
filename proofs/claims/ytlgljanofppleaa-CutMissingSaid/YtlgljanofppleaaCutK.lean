/- Walks: the program's Close. -/
import Derived.Test.YtlgljanofppleaaCutI
import Derived.Deep.LoopGhost
namespace Go.Proofs.Ytlgljanofppleaa
open Go.RowKit Go.Joins

def sumTo (v : Nat → Nat) : Nat → Nat
  | 0 => 0
  | k + 1 => sumTo v k + v k
def sumV (v : Nat → Nat) : Nat := sumTo v 8
theorem sumTo_past {v : Nat → Nat} {k x : Nat} : ∀ {n : Nat}, n ≤ k → sumTo (upd v k x) n = sumTo v n
  | 0, _ => rfl
  | n + 1, h => by
    show sumTo (upd v k x) n + upd v k x n = sumTo v n + v n
    rw [sumTo_past (n := n) (by omega)]
    unfold upd
    rw [if_neg (by omega)]
theorem sumTo_upd {v : Nat → Nat} {k x : Nat} : ∀ {n : Nat}, k < n → sumTo (upd v k x) n + v k = sumTo v n + x
  | 0, h => by omega
  | n + 1, h => by
    show sumTo (upd v k x) n + upd v k x n + v k = sumTo v n + v n + x
    by_cases e : k = n
    · subst e
      rw [sumTo_past (Nat.le_refl _)]
      unfold upd
      rw [if_pos rfl]
      omega
    · have ih := sumTo_upd (v := v) (k := k) (x := x) (n := n) (by omega)
      have : upd v k x n = v n := if_neg (fun q => e q.symm)
      rw [this]
      omega
/-- The cut's last transaction of member j, and all ahead of it, depend on nothing beyond the cut. -/
def fine (l : LG) (v : Nat → Nat) (j : Nat) : Prop := v j = 0 ∨ leqB (needV (l j) (v j)) v = true
theorem close_done {l : LG} {v : Nat → Nat} (h : ∀ j, j < 8 → fine l v j) (hs : leqB v (sizeV l) = true) : closedP l v := by
  refine ⟨hs, fun i k t hi hk ht => ?_⟩
  rcases h i hi with h0 | h0
  · omega
  · exact (needV_le (lq hs hi)).1 h0 k t hk ht
theorem close_step {l : LG} {v0 v : Nat → Nat} {k : Nat} (hs : leqB v (sizeV l) = true) (hk : k < 8) (h : ∀ u, closedP l u → leqB u v0 = true → leqB u v = true) (hn : leqB (needV (l k) (v k)) v = false) : ∀ u, closedP l u → leqB u v0 = true → leqB u (upd v k (v k - 1)) = true := by
  intro u hu h0
  have h1 := h u hu h0
  refine lq_of fun j hj => ?_
  unfold upd
  by_cases e : j = k
  · subst e
    rw [if_pos rfl]
    have h2 := lq h1 hj
    rcases Nat.lt_or_ge (u j) (v j) with q | q
    · omega
    · exfalso
      have e2 : u j = v j := by omega
      have : leqB (needV (l j) (v j)) v = true := (needV_le (lq hs hj)).2 fun d t hd ht => lq_trans (hu.2 j d t hj (by omega) ht) h1
      rw [hn] at this
      cases this
  · rw [if_neg e]
    exact lq h1 hj
theorem boxesCl (u : Nat → S3) (v : Nat → Nat) (w : World) : ∃ W, W = ((w.alloc (.cells (lcells u) 24)).alloc (.cells (vcells v) 34)).alloc (.cells V0 34) ∧ Gr w W ∧ W.heap.size = w.heap.size + 3 ∧
    LBox W w.heap.size u ∧ VBox W (w.heap.size + 1) v ∧ VBox W (w.heap.size + 1 + 1) (fun _ => 0) := by
  obtain ⟨W, hW, hg, hs, hL, hV⟩ := boxesLV u v w
  rw [← hW]
  have h1 := heap_alloc W V0 34
  rw [hs] at h1
  exact ⟨_, rfl, hg.alloc _, by simp [hs], hL.gr ((Gr.refl _).alloc _), hV.gr ((Gr.refl _).alloc _), ⟨h1⟩⟩
/-- What Close has in memory. -/
structure ClS (w : World) (l : LG) (v0 : Nat → Nat) (nn : Nat → S3) (B b5 : Nat) (v : Nat → Nat) (wr : World) : Prop where
  vb : VBox wr (w.heap.size + 1) v
  z : VBox wr (w.heap.size + 1 + 1) (fun _ => 0)
  n : NBox wr b5 nn
  rows : ∀ i, i < 8 → RN wr B (nn i) (needF l i) (v0 i)
  gr : Gr w wr
theorem ClS.next {w : World} {l : LG} {v0 : Nat → Nat} {nn : Nat → S3} {B b5 : Nat} {v : Nat → Nat} {a b : World} (h : ClS w l v0 nn B b5 v a) (g : Gr a b) : ClS w l v0 nn B b5 v b := ⟨h.vb.gr g, h.z.gr g, h.n.gr g, fun i hi => own_gr (h.rows i hi) g, h.gr.trans g⟩
theorem ClS.set {w : World} {l : LG} {v0 : Nat → Nat} {nn : Nat → S3} {B b5 : Nat} {v : Nat → Nat} {a : World} (h : ClS w l v0 nn B b5 v a) (hB : w.heap.size + 1 < B) (h5 : w.heap.size + 1 < b5) {k : Nat} (hk : k < 8) (x : Nat) : ClS w l v0 nn B b5 (upd v k x) (a.setCell ⟨w.heap.size + 1, k, none⟩ (.int .u64 (x : Int))) :=
  ⟨h.vb.set hk x, h.z.far (by simp only []; omega) _, h.n.far (by simp only []; omega) _, fun i hi => ownsRow_setCell_below (h.rows i hi) hB _, h.gr.setCell (by simp only []; omega) _⟩
/-- The cut is within the first one, and no closed cut within that is above it. -/
structure ClI (l : LG) (v0 v : Nat → Nat) : Prop where
  le : leqB v v0 = true
  up : ∀ u, closedP l u → leqB u v0 = true → leqB u v = true
/-- Eight cells of a vector at this place. -/
def VCo (w : World) (b o : Nat) (a : Nat → Nat) : Prop := w.cell? ⟨b, o, none⟩ = some (.int .u64 (a 0 : Int)) ∧ w.cell? ⟨b, o + 1, none⟩ = some (.int .u64 (a 1 : Int)) ∧ w.cell? ⟨b, o + 2, none⟩ = some (.int .u64 (a 2 : Int)) ∧ w.cell? ⟨b, o + 3, none⟩ = some (.int .u64 (a 3 : Int)) ∧ w.cell? ⟨b, o + 4, none⟩ = some (.int .u64 (a 4 : Int)) ∧ w.cell? ⟨b, o + 5, none⟩ = some (.int .u64 (a 5 : Int)) ∧ w.cell? ⟨b, o + 6, none⟩ = some (.int .u64 (a 6 : Int)) ∧ w.cell? ⟨b, o + 7, none⟩ = some (.int .u64 (a 7 : Int))
theorem VCo.gr {w w' : World} {b o : Nat} {a : Nat → Nat} (h : VCo w b o a) (g : Gr w w') : VCo w' b o a := by
  obtain ⟨h0, h1, h2, h3, h4, h5, h6, h7⟩ := h
  exact ⟨g.cell h0, g.cell h1, g.cell h2, g.cell h3, g.cell h4, g.cell h5, g.cell h6, g.cell h7⟩
theorem vco_row {w : World} {B g n c : Nat} {f : Nat → Nat → Nat} (h : w.ownsRow B 34 8 (.slice (some ⟨g, 0, none⟩) n c) n (vrows f n)) {k : Nat} (hk : k < n) : VCo w g (k * 8) (f k) :=
  ⟨vrow_cells h hk (r := 0) (by decide), vrow_cells h hk (r := 1) (by decide), vrow_cells h hk (r := 2) (by decide), vrow_cells h hk (r := 3) (by decide), vrow_cells h hk (r := 4) (by decide), vrow_cells h hk (r := 5) (by decide), vrow_cells h hk (r := 6) (by decide), vrow_cells h hk (r := 7) (by decide)⟩
theorem mt_le (v : Nat → Nat) (l : LG) : leqB (mt v (sizeV l)) (sizeV l) = true := lq_of fun _ _ => Nat.min_le_right _ _

set_option maxRecDepth 100000 in
set_option maxHeartbeats 4000000 in
theorem close_any (u : Nat → S3) (l : LG) (v : Nat → Nat) (w : World) (h : LV w u l) (hf : ∀ i, i < 8 → (l i).length * 112 ≤ 140737488355328) :
    Calls Try.prog 19 #[.agg (lcells u), .agg (vcells v)] w fun e w' => ∃ c, e = .returned (.agg (vcells c)) ∧ IsClose l v c ∧ Gr w w' := by
  obtain ⟨W, hW, hg, hsz, hL, hV, hZ⟩ := boxesCl u v w
  have HL := Lib.hid hL
  have HV := Lib.hid hV
  have HZ := Lib.hid hZ
  have HG := Lib.hid hg
  have HXW := Lib.hid h
  have HF := Lib.hid hf
  have HSZ := Lib.hid (fun w1 (g : Gr W w1) => size_any u l w1 ((h.gr hg).gr g))
  have HMT := Lib.hid (fun w1 => meet_any v (sizeV l) w1)
  obtain ⟨v0, hv0⟩ : ∃ x, x = mt v (sizeV l) := ⟨_, rfl⟩
  rw [← hv0] at HMT
  have HV0 := Lib.hid hv0
  have HLE : Hid (leqB v0 (sizeV l) = true) := Lib.hid (by rw [hv0]; exact mt_le v l)
  clear hL hV hZ hg hsz h hf hv0
  go_enter Try.func19, Try.ntmps19
  go_upto_region 1 with (fail)
  rw [← hW]
  clear hW
  refine qTail 4 (fun w' => LC w' w.heap.size u ∧ VC w' (w.heap.size + 1) v ∧ Gr W w') (by kernel_rfl) (by kernel_rfl) ⟨HL.out.lc.gr (Gr.refl _).drew, HV.out.vc.gr (Gr.refl _).drew, (Gr.refl _).drew⟩ ?_
  simp only [List.take_succ_cons, List.take_zero, List.drop_succ_cons, List.drop_zero]
  iterate 2
    refine qTake (by kernel_rfl) ?_
    apply Exists.intro
    refine ⟨fun wq hq => ?_, ?_⟩
    · go_light
      obtain ⟨⟨l0, l1, l2, l3, l4, l5, l6, l7⟩, ⟨h0, h1, h2, h3, h4, h5, h6, h7⟩, hg⟩ := hq
      go_simp
      try with_reducible rfl
      done
    try simp only [Act.put, List.setIfInBounds_toArray, List.set_cons_zero, List.set_cons_succ]
  refine qCall (by kernel_rfl) ?_
  apply Exists.intro
  refine ⟨?_, ?_⟩
  · apply Exists.intro
    apply Exists.intro
    refine ⟨fun wq => ?_, fun wq hq => ?_⟩
    · go_light
      go_simp
      exact ⟨rfl, rfl⟩
    · exact (HSZ.out wq hq.2.2).mono fun e w'' ⟨he, hg⟩ => ⟨he, hq.1.gr hg, hq.2.1.gr hg, hq.2.2.trans hg⟩
  try simp only [Act.put, List.setIfInBounds_toArray, List.set_cons_zero, List.set_cons_succ]
  refine qCall (by kernel_rfl) ?_
  apply Exists.intro
  refine ⟨?_, ?_⟩
  · apply Exists.intro
    apply Exists.intro
    refine ⟨fun wq => ?_, fun wq hq => ?_⟩
    · go_light
      go_simp
      exact ⟨rfl, rfl⟩
    · exact (HMT.out wq).mono fun e w'' ⟨he, hg⟩ => ⟨he, hq.1.gr hg, hq.2.1.gr hg, hq.2.2.trans hg⟩
  try simp only [Act.put, List.setIfInBounds_toArray, List.set_cons_zero, List.set_cons_succ]
  refine qNil ?_
  intro w3 hC
  have HG3 := Lib.hid hC.2.2
  obtain ⟨y0, y1, y2, y3, y4, y5, y6, y7⟩ := hC.2.1
  obtain ⟨f0, f1, f2, f3, f4, f5, f6, f7⟩ := (HV.out.gr HG3.out).fz
  clear hC
  go_upto_region 2 with (fail)
  clear y0 y1 y2 y3 y4 y5 y6 y7 f0 f1 f2 f3 f4 f5 f6 f7
  change Code.wp Try.prog _ _ _ (putCells w3 (w.heap.size + 1) 0 (vcells v0).toList)
  obtain ⟨w4, hw4, hv4, hz4, hl4, hg4⟩ : ∃ x, x = putCells w3 (w.heap.size + 1) 0 (vcells v0).toList ∧ VBox x (w.heap.size + 1) v0 ∧ VBox x (w.heap.size + 1 + 1) (fun _ => 0) ∧ LBox x w.heap.size u ∧ Gr w x := by
    obtain ⟨hk, hb⟩ := putV8 (HV.out.gr HG3.out) v0
    exact ⟨_, rfl, hb, ⟨by rw [hk _ (by omega)]; exact (HZ.out.gr HG3.out).box⟩, ⟨by rw [hk _ (by omega)]; exact (HL.out.gr HG3.out).box⟩, Gr.putCells (Nat.le_succ _) _ _ (HG.out.trans HG3.out)⟩
  rw [← hw4]
  have hB4 : w.heap.size + 1 + 1 < w4.heap.size := (Array.getElem?_eq_some_iff.1 hz4.box).1
  have HND := Lib.hid (needs_any u l v0 w4 (HXW.out.gr hg4) HLE.out HF.out)
  have HV4 := Lib.hid hv4
  have HZ4 := Lib.hid hz4
  have HG4 := Lib.hid hg4
  obtain ⟨l0, l1, l2, l3, l4, l5, l6, l7⟩ := hl4.all
  obtain ⟨h0, h1, h2, h3, h4, h5, h6, h7⟩ := hv4.all
  clear hw4 hv4 hz4 hl4 hg4
  go_wp2_with fail
  refine HND.out.mono ?_
  rintro e w5 ⟨nn, rfl, hrn, g5⟩
  have HRN := Lib.hid hrn
  have HG5 := Lib.hid g5
  clear l0 l1 l2 l3 l4 l5 l6 l7 h0 h1 h2 h3 h4 h5 h6 h7 hrn g5
  obtain ⟨b5, hb5⟩ : ∃ b, b = w5.heap.size := ⟨_, rfl⟩
  obtain ⟨W6, hW6, hg6, hn6⟩ : ∃ x, x = w5.alloc (.cells (lcells nn) 59) ∧ Gr w5 x ∧ NBox x b5 nn := ⟨_, rfl, (Gr.refl _).alloc _, by rw [hb5]; exact ⟨heap_alloc _ _ _⟩⟩
  obtain ⟨B, hB⟩ : ∃ b, b = w4.heap.size := ⟨_, rfl⟩
  have hBb : w.heap.size + 1 < B ∧ w.heap.size + 1 < b5 := by
    have := HG5.out.size
    rw [hB, hb5]
    omega
  have HBB := Lib.hid hBb
  have HC6 : Hid (ClS w l v0 nn B b5 v0 W6) := Lib.hid ⟨(HV4.out.gr HG5.out).gr hg6, (HZ4.out.gr HG5.out).gr hg6, hn6, fun i hi => by rw [hB]; exact own_gr (HRN.out i hi) hg6, (HG4.out.trans HG5.out).trans hg6⟩
  clear hg6 hn6 hB hBb hB4
  go_upto_region 3 with (fail)
  rw [← hW6, ← hb5]
  clear hW6 hb5
  go_wp2_with fail
  go_loopg [6] (2 * sumV v0 + 2) (fun kx s wr => ∃ (bl : Bool) (vv : Nat → Nat), s = .bool bl ∧ 2 * sumV vv + (if bl then 1 else 0) < kx ∧ Hid (ClS w l v0 nn B b5 vv wr ∧ ClI l v0 vv ∧ (bl = false → ∀ j, j < 8 → fine l vv j)))
  case atStart => exact ⟨true, v0, rfl, by simp, Lib.hid ⟨HC6.out, ⟨lq_refl _, fun _ _ h => h⟩, fun e => by cases e⟩⟩
  case round =>
    obtain ⟨bl, vv, rfl, hms, hst⟩ := hrel
    rename World => wo
    rcases bl with _ | _
    · obtain ⟨hcs, hci, hfn⟩ := hst.out
      have HIS : Hid (IsClose l v vv) := Lib.hid ⟨close_done (hfn rfl) (lq_trans hci.le HLE.out), lq_trans hci.le (by rw [HV0.out]; exact lq_of fun _ _ => Nat.min_le_left _ _), fun x hx hxv => hci.up x hx (by rw [HV0.out]; exact lq_of fun i hi => by have h1 := lq hxv hi; have h2 : x i ≤ sizeV l i := lq hx.1 hi; show _ ≤ min _ _; omega)⟩
      obtain ⟨h0, h1, h2, h3, h4, h5, h6, h7⟩ := hcs.vb.all
      obtain ⟨s0, s1, s2, s3, s4, s5, s6, s7⟩ := hcs.z.zero
      obtain ⟨f0, f1, f2, f3, f4, f5, f6, f7⟩ := hcs.z.fz
      have HGF := Lib.hid hcs.gr
      clear hcs hci hfn hst
      go_wp2_with fail
      refine bodyPost_ret (v := .agg (vcells vv)) (by simp [results, Try.results19, go_sem, *]) rfl ⟨vv, rfl, HIS.out, ?_⟩
      show Gr w (putCells wo (w.heap.size + 1 + 1) 0 (vcells vv).toList)
      exact Gr.putCells (by omega) _ _ HGF.out
    · simp only [if_true] at hms
      go_wp2_with fail
      go_loopw [6, 16] (fun s i wr => ∃ (k : Nat) (bl : Bool) (v2 : Nat → Nat), k ≤ 8 ∧ i = .int .i64 k ∧ s = .bool bl ∧ sumV v2 + (if bl then 1 else 0) ≤ sumV vv ∧ Hid (ClS w l v0 nn B b5 v2 wr ∧ ClI l v0 v2 ∧ (bl = false → ∀ j, j < k → fine l v2 j))) (fun _ i _ => 8 - (intOf i).toNat)
      case atStart => exact ⟨0, false, vv, by decide, rfl, rfl, by simp, Lib.hid ⟨hst.out.1, hst.out.2.1, fun _ j hj => absurd hj (Nat.not_lt_zero _)⟩⟩
      case round =>
        obtain ⟨k, bl, v2, hk, rfl, rfl, hsum, hst2⟩ := hrel
        rename World => wi
        by_cases hlt : k < 8
        · have hk0 : (0 : Int) ≤ (k : Int) := Int.natCast_nonneg _
          have hk8 : (k : Int) < 8 := by omega
          go_wp2_with fail
          go_loopg [6] (v2 k + 1) (fun kx s wr => ∃ (bl3 : Bool) (v3 : Nat → Nat), s = .bool bl3 ∧ v3 k < kx ∧ sumV v3 + (if bl3 then 1 else 0) ≤ sumV vv ∧ Hid (ClS w l v0 nn B b5 v3 wr ∧ ClI l v0 v3 ∧ (bl3 = false → ∀ j, j < k → fine l v3 j)))
          case atStart => exact ⟨bl, v2, rfl, by omega, hsum, hst2⟩
          case round =>
            obtain ⟨bl3, v3, rfl, hm3, hsum3, hst3⟩ := hrel
            rename World => wr
            have hle3 : v3 k ≤ v0 k := lq hst3.out.2.1.le hlt
            have hkv := hst3.out.1.vb.at hlt
            have HWR := Lib.hid (hst3.out.1.vb.vc)
            rcases Nat.eq_zero_or_pos (v3 k) with hz0 | hpos
            · rw [hz0] at hkv
              have HKV : Hid (wr.cell? ⟨w.heap.size + 1, k, none⟩ = some (.int .u64 0)) := Lib.hid hkv
              have HZK := Lib.hid hz0
              clear hkv hz0
              go_upto_region 9 with (fail)
              refine qRegion (fun w' => w'.cell? ⟨w.heap.size + 1, k, none⟩ = some (.int .u64 0) ∧ Gr wr w') (by kernel_rfl) (by kernel_rfl) ⟨(Gr.refl _).drew.cell HKV.out, (Gr.refl _).drew⟩ ?_
              iterate 5
                refine qTake (by kernel_rfl) ?_
                apply Exists.intro
                refine ⟨fun wq hq => ?_, ?_⟩
                · go_light
                  obtain ⟨e0, -⟩ := hq
                  go_simp
                  try with_reducible rfl
                  done
                try simp only [Act.put, List.setIfInBounds_toArray, List.set_cons_zero, List.set_cons_succ]
              iterate 12
                refine qSkip (by kernel_rfl) ?_
                try simp only [Act.put, List.setIfInBounds_toArray, List.set_cons_zero, List.set_cons_succ]
              iterate 1
                refine qTake (by kernel_rfl) ?_
                apply Exists.intro
                refine ⟨fun wq hq => ?_, ?_⟩
                · go_light
                  obtain ⟨e0, -⟩ := hq
                  go_simp
                  try with_reducible rfl
                  done
                try simp only [Act.put, List.setIfInBounds_toArray, List.set_cons_zero, List.set_cons_succ]
              refine qNil ?_
              rintro w7 ⟨-, hg7⟩
              have HST4 : Hid (ClS w l v0 nn B b5 v3 w7 ∧ ClI l v0 v3 ∧ (bl3 = false → ∀ j, j < k + 1 → fine l v3 j)) := Lib.hid ⟨hst3.out.1.next hg7, hst3.out.2.1, fun e j hj => by
                by_cases q : j = k
                · rw [q]; exact .inl HZK.out
                · exact hst3.out.2.2 e j (by omega)⟩
              clear hg7
              go_wp2_with fail
              go_roundw
              case measure => simp [intOf]; omega
              case rel => exact ⟨k + 1, bl3, v3, by omega, by go_num, rfl, hsum3, HST4⟩
            · obtain ⟨m, hm⟩ : ∃ m, m = v3 k := ⟨_, rfl⟩
              rw [← hm] at hkv hpos hle3
              obtain ⟨d, hd⟩ : ∃ d, m = d + 1 := ⟨m - 1, by omega⟩
              have hrow := hst3.out.1.rows k hlt
              unfold RN at hrow
              obtain ⟨A, hA⟩ : ∃ A, A = (nn k).a := ⟨_, rfl⟩
              obtain ⟨n, hn⟩ : ∃ n, n = (nn k).n := ⟨_, rfl⟩
              obtain ⟨c, hc⟩ : ∃ c, c = (nn k).c := ⟨_, rfl⟩
              rw [← hA, ← hn, ← hc] at hrow
              obtain ⟨A', c', hvv, -, -⟩ := own_form hrow
              injection hvv with e1 e2 e3
              subst e1 e3
              rw [e2] at hrow
              obtain ⟨g, rfl⟩ := own_blk hrow (by omega)
              have hvo := vco_row hrow (k := d) (by omega)
              have hnk := hst3.out.1.n.at hlt
              rw [← hA, ← hn, ← hc] at hnk
              have hdn : (d : Int) < (n : Int) := by omega
              have hd0 : (0 : Int) ≤ (d : Int) := by omega
              have hmp : (0 : Int) < (m : Int) := by omega
              have hmn : 0 < m := by omega
              have hmd : decide (0 < m) = true := decide_eq_true hmn
              have hsub : IntKind.u64.wrap ((m : Int) - 1) = (d : Int) := by
                have h1 := lq HLE.out hlt
                have h2 := HF.out k hlt
                have h3 : sizeV l k = (l k).length := rfl
                simp [IntKind.wrap, IntKind.bits, IntKind.signed]; omega
              obtain ⟨a, ha⟩ : ∃ a, a = needF l k d := ⟨_, rfl⟩
              rw [← ha] at hvo
              obtain ⟨r, hr⟩ : ∃ r, r = leqB a v3 := ⟨_, rfl⟩
              have HLQ := Lib.hid (fun w1 => leq_any a v3 w1)
              rw [← hr] at HLQ
              have HRR : Hid (leqB (needV (l k) (v3 k)) v3 = r) := Lib.hid (by rw [hr, ha, ← hm, hd]; rfl)
              have HKV := Lib.hid hkv
              have HNK := Lib.hid hnk
              have HVO := Lib.hid hvo
              have HM := Lib.hid hm
              have HD := Lib.hid hd
              clear hkv hm hd hrow hA hn hc e2 hvo hnk ha hr hpos hle3
              rcases r with _ | _
              · go_upto_region 9 with (fail)
                refine qRegion (fun w' => VC w' (w.heap.size + 1) v3 ∧ w'.cell? ⟨w.heap.size + 1, k, none⟩ = some (.int .u64 (m : Int)) ∧ w'.cell? ⟨b5, k, none⟩ = some (.slice (some ⟨g, 0, none⟩) n c) ∧ VCo w' g (d * 8) a ∧ Gr wr w') (by kernel_rfl) (by kernel_rfl) ⟨HWR.out.gr (Gr.refl _).drew, (Gr.refl _).drew.cell HKV.out, (Gr.refl _).drew.cell HNK.out, HVO.out.gr (Gr.refl _).drew, (Gr.refl _).drew⟩ ?_
                iterate 15
                  refine qTake (by kernel_rfl) ?_
                  apply Exists.intro
                  refine ⟨fun wq hq => ?_, ?_⟩
                  · go_light
                    obtain ⟨⟨e0, e1, e2, e3, e4, e5, e6, e7⟩, e8, e9, ⟨q0, q1, q2, q3, q4, q5, q6, q7⟩, -⟩ := hq
                    go_simp
                    try with_reducible rfl
                    done
                  try simp only [Act.put, List.setIfInBounds_toArray, List.set_cons_zero, List.set_cons_succ]
                refine qCall (by kernel_rfl) ?_
                apply Exists.intro
                refine ⟨?_, ?_⟩
                · apply Exists.intro
                  apply Exists.intro
                  refine ⟨fun wq => ?_, fun wq hq => ?_⟩
                  · go_light
                    go_simp
                    exact ⟨rfl, rfl⟩
                  · exact (HLQ.out wq).mono fun e w'' ⟨he, hg⟩ => ⟨he, hq.1.gr hg, hg.cell hq.2.1, hg.cell hq.2.2.1, hq.2.2.2.1.gr hg, hq.2.2.2.2.trans hg⟩
                try simp only [Act.put, List.setIfInBounds_toArray, List.set_cons_zero, List.set_cons_succ]
                iterate 2
                  refine qTake (by kernel_rfl) ?_
                  apply Exists.intro
                  refine ⟨fun wq hq => ?_, ?_⟩
                  · go_light
                    obtain ⟨⟨e0, e1, e2, e3, e4, e5, e6, e7⟩, e8, e9, ⟨q0, q1, q2, q3, q4, q5, q6, q7⟩, -⟩ := hq
                    go_simp
                    try with_reducible rfl
                    done
                  try simp only [Act.put, List.setIfInBounds_toArray, List.set_cons_zero, List.set_cons_succ]
                refine qNil ?_
                rintro w7 ⟨-, hk7, -, -, hg7⟩
                have HST7 := Lib.hid (hst3.out.1.next hg7)
                have hfz : w7.frozen? ⟨w.heap.size + 1, k, none⟩ = false := unfrozen_of_block HST7.out.vb.box k
                have HST8 : Hid (ClS w l v0 nn B b5 (upd v3 k d) (w7.setCell ⟨w.heap.size + 1, k, none⟩ (.int .u64 (d : Int))) ∧ ClI l v0 (upd v3 k d) ∧ (true = false → ∀ j, j < k → fine l (upd v3 k d) j)) := Lib.hid ⟨HST7.out.set HBB.out.1 HBB.out.2 hlt d, ⟨lq_of fun j hj => by
                    have h1 := lq hst3.out.2.1.le hj
                    unfold upd
                    by_cases q : j = k
                    · subst q; rw [if_pos rfl]; have := HM.out; have := HD.out; omega
                    · rw [if_neg q]; exact h1, by
                    have h1 := close_step (lq_trans hst3.out.2.1.le HLE.out) hlt hst3.out.2.1.up HRR.out
                    rw [show v3 k - 1 = d by have := HM.out; have := HD.out; omega] at h1
                    exact h1⟩, fun e => by cases e⟩
                have hsum4 : sumV (upd v3 k d) + (if true then 1 else 0) ≤ sumV vv := by
                  have h1 := sumTo_upd (v := v3) (k := k) (x := d) (n := 8) hlt
                  have h2 := HM.out
                  have h3 := HD.out
                  simp only [if_true]
                  unfold sumV at hsum3 ⊢
                  omega
                clear hg7
                go_wp2_with fail
                go_roundg (v3 k)
                case measure => exact hm3
                case rel => exact ⟨true, upd v3 k d, rfl, by unfold upd; rw [if_pos rfl]; have := HM.out; have := HD.out; omega, hsum4, HST8⟩
              · go_upto_region 9 with (fail)
                refine qRegion (fun w' => VC w' (w.heap.size + 1) v3 ∧ w'.cell? ⟨w.heap.size + 1, k, none⟩ = some (.int .u64 (m : Int)) ∧ w'.cell? ⟨b5, k, none⟩ = some (.slice (some ⟨g, 0, none⟩) n c) ∧ VCo w' g (d * 8) a ∧ Gr wr w') (by kernel_rfl) (by kernel_rfl) ⟨HWR.out.gr (Gr.refl _).drew, (Gr.refl _).drew.cell HKV.out, (Gr.refl _).drew.cell HNK.out, HVO.out.gr (Gr.refl _).drew, (Gr.refl _).drew⟩ ?_
                iterate 15
                  refine qTake (by kernel_rfl) ?_
                  apply Exists.intro
                  refine ⟨fun wq hq => ?_, ?_⟩
                  · go_light
                    obtain ⟨⟨e0, e1, e2, e3, e4, e5, e6, e7⟩, e8, e9, ⟨q0, q1, q2, q3, q4, q5, q6, q7⟩, -⟩ := hq
                    go_simp
                    try with_reducible rfl
                    done
                  try simp only [Act.put, List.setIfInBounds_toArray, List.set_cons_zero, List.set_cons_succ]
                refine qCall (by kernel_rfl) ?_
                apply Exists.intro
                refine ⟨?_, ?_⟩
                · apply Exists.intro
                  apply Exists.intro
                  refine ⟨fun wq => ?_, fun wq hq => ?_⟩
                  · go_light
                    go_simp
                    exact ⟨rfl, rfl⟩
                  · exact (HLQ.out wq).mono fun e w'' ⟨he, hg⟩ => ⟨he, hq.1.gr hg, hg.cell hq.2.1, hg.cell hq.2.2.1, hq.2.2.2.1.gr hg, hq.2.2.2.2.trans hg⟩
                try simp only [Act.put, List.setIfInBounds_toArray, List.set_cons_zero, List.set_cons_succ]
                iterate 2
                  refine qTake (by kernel_rfl) ?_
                  apply Exists.intro
                  refine ⟨fun wq hq => ?_, ?_⟩
                  · go_light
                    obtain ⟨⟨e0, e1, e2, e3, e4, e5, e6, e7⟩, e8, e9, ⟨q0, q1, q2, q3, q4, q5, q6, q7⟩, -⟩ := hq
                    go_simp
                    try with_reducible rfl
                    done
                  try simp only [Act.put, List.setIfInBounds_toArray, List.set_cons_zero, List.set_cons_succ]
                refine qNil ?_
                rintro w7 ⟨-, -, -, -, hg7⟩
                have HST4 : Hid (ClS w l v0 nn B b5 v3 w7 ∧ ClI l v0 v3 ∧ (bl3 = false → ∀ j, j < k + 1 → fine l v3 j)) := Lib.hid ⟨hst3.out.1.next hg7, hst3.out.2.1, fun e j hj => by
                  by_cases q : j = k
                  · rw [q]; exact .inr HRR.out
                  · exact hst3.out.2.2 e j (by omega)⟩
                clear hg7
                go_wp2_with fail
                go_roundw
                case measure => simp [intOf]; omega
                case rel => exact ⟨k + 1, bl3, v3, by omega, by go_num, rfl, hsum3, HST4⟩
        · obtain rfl : k = 8 := by omega
          go_wp2_with fail
          go_roundg (2 * sumV v2 + (if bl then 1 else 0) + 1)
          case measure => cases bl <;> simp at hsum ⊢ <;> omega
          case rel => exact ⟨bl, v2, rfl, Nat.lt_succ_self _, hst2⟩
end Go.Proofs.Ytlgljanofppleaa
