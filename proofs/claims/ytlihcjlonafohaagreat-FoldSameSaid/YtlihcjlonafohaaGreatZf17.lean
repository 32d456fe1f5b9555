/- What the operations of a region leave, each told by a predicate that keeps when boxes change. Walks: the document's Close. Walks: the document's Order. -/
import Derived.Test.YtlihcjlonafohaaGreatZf16
import Derived.Test.YtlihcjlonafohaaGreatZf09
import Derived.Test.YtlihcjlonafohaaGreatZf15
namespace Go.Proofs.YtlihcjlonafohaaGreat
open Go.RowKit Go.Joins

/-- The types of which a region's own boxes are. -/
def btV (t : TypeId) : Bool := t == 24 || t == 27 || t == 49 || t == 39
theorem XN.keepsV {w w' : World} {B : Nat} {v : Value} {L : List TX} (h : XN w B v L) (k : Keeps btV w w') : XN w' B v L := by
  obtain ⟨R, h1, h2, h3⟩ := h
  exact ⟨R, h1, own_keeps h2 (by decide) k, fun r hr => own_keeps (h3 r hr) (by decide) k⟩
theorem LN.keepsV {w w' : World} {B : Nat} {u : Nat → S3} {l : LG} (h : LN w B u l) (k : Keeps btV w w') : LN w' B u l := fun i hi => (h i hi).keepsV k
theorem SO.keepsV {w w' : World} {B : Nat} {v : Value} {L : List ByteArray} (h : SO w B v L) (k : Keeps btV w w') : SO w' B v L := own_keeps h (by decide) k
structure Spec where
  P : World → Value → Prop
  st : ∀ y w1 w2, P w1 y → Keeps btV w1 w2 → P w2 y
def Spec.fix (v : Value) : Spec := ⟨fun _ y => y = v, fun _ _ _ h _ => h⟩
def Spec.any : Spec := ⟨fun _ _ => True, fun _ _ _ _ _ => trivial⟩
def Spec.val (B : Nat) (n : Int) (m : Nat) (E : List ByteArray) (on : Bool) : Spec := ⟨fun w y => ∃ A c, y = .agg #[.int .i64 n, .slice A m c, .bool on] ∧ SO w B (.slice A m c) E, fun _ _ _ ⟨A, c, h1, h2⟩ k => ⟨A, c, h1, h2.keepsV k⟩⟩
def Spec.valE (B : Nat) (n : Int) (m : Nat) (E : List ByteArray) (on : Bool) (e : Nat) : Spec := ⟨fun w y => ∃ A c, y = .tuple #[.agg #[.int .i64 n, .slice A m c, .bool on], .int .i64 (e : Int)] ∧ SO w B (.slice A m c) E, fun _ _ _ ⟨A, c, h1, h2⟩ k => ⟨A, c, h1, h2.keepsV k⟩⟩
/-- Value's answer, its parts named. -/
theorem RetValE.form {r : VR} {k : Nat} {w : World} {e : Ending} {w' : World} (h : RetValE r k w e w') : ∃ A c, e = .returned (.tuple #[.agg #[.int .i64 r.n, .slice A r.e.length c, .bool r.on], .int .i64 (k : Int)]) ∧ SO w' w.heap.size (.slice A r.e.length c) r.e ∧ Gr w w' := by
  obtain ⟨ve, h1, h2, h3⟩ := h
  obtain ⟨A, c, hv, -, -⟩ := own_form h2
  subst hv
  exact ⟨A, c, h1, h2, h3⟩
end Go.Proofs.YtlihcjlonafohaaGreat
namespace Go.Proofs.YtlihcjlonafohaaGreat
open Go.RowKit Go.Joins

/-- A transaction at this place depends on more than the cut: no closed cut within reaches it. -/
theorem close_cut {l : LG} {v0 v : Nat → Nat} {k d : Nat} {t : TX} (hk : k < 8) (ht : (l k)[d]? = some t) (h : ∀ u, closedP l u → leqB u v0 = true → leqB u v = true) (hn : leqB t.deps v = false) : ∀ u, closedP l u → leqB u v0 = true → leqB u (upd v k d) = true := by
  intro u hu h0
  have h1 := h u hu h0
  refine lq_of fun j hj => ?_
  unfold upd
  by_cases e : j = k
  · subst e
    rw [if_pos rfl]
    rcases Nat.lt_or_ge d (u j) with q | q
    · exfalso
      have := lq_trans (hu.2 j d t hj q ht) h1
      rw [hn] at this
      cases this
    · exact q
  · rw [if_neg e]
    exact lq h1 hj
/-- Of member j the first d transactions depend on nothing beyond the cut. -/
def fineTo (l : LG) (v : Nat → Nat) (j d : Nat) : Prop := ∀ e t, e < d → (l j)[e]? = some t → leqB t.deps v = true
theorem fineTo_next {l : LG} {v : Nat → Nat} {j d : Nat} {t : TX} (h : fineTo l v j d) (ht : (l j)[d]? = some t) (h2 : leqB t.deps v = true) : fineTo l v j (d + 1) := fun e x he hx => by
  by_cases q : e = d
  · subst q
    rw [ht] at hx
    injection hx with hx
    rw [← hx]; exact h2
  · exact h e x (by omega) hx
/-- What the document's Close has in memory. -/
structure ClD (w : World) (u : Nat → S3) (v : Nat → Nat) (wr : World) : Prop where
  vb : VBox wr (w.heap.size + 1) v
  z : VBox wr (w.heap.size + 1 + 1) (fun _ => 0)
  lb : LBox wr w.heap.size u
  gr : Gr w wr
theorem ClD.next {w : World} {u : Nat → S3} {v : Nat → Nat} {a b : World} (h : ClD w u v a) (g : Gr a b) : ClD w u v b := ⟨h.vb.gr g, h.z.gr g, h.lb.gr g, h.gr.trans g⟩
theorem ClD.set {w : World} {u : Nat → S3} {v : Nat → Nat} {a : World} (h : ClD w u v a) {k : Nat} (hk : k < 8) (x : Nat) : ClD w u (upd v k x) (a.setCell ⟨w.heap.size + 1, k, none⟩ (.int .u64 (x : Int))) :=
  ⟨h.vb.set hk x, h.z.far (by simp only []; omega) _, h.lb.far (by simp only []; omega) _, h.gr.setCell (by simp only []; omega) _⟩
/-- The eight cells of a transaction's vector. -/
def DC (w : World) (b o : Nat) (a : Nat → Nat) : Prop := w.cell? ⟨b, o + 3, none⟩ = some (.int .u64 (a 0 : Int)) ∧ w.cell? ⟨b, o + 4, none⟩ = some (.int .u64 (a 1 : Int)) ∧ w.cell? ⟨b, o + 5, none⟩ = some (.int .u64 (a 2 : Int)) ∧ w.cell? ⟨b, o + 6, none⟩ = some (.int .u64 (a 3 : Int)) ∧ w.cell? ⟨b, o + 7, none⟩ = some (.int .u64 (a 4 : Int)) ∧ w.cell? ⟨b, o + 8, none⟩ = some (.int .u64 (a 5 : Int)) ∧ w.cell? ⟨b, o + 9, none⟩ = some (.int .u64 (a 6 : Int)) ∧ w.cell? ⟨b, o + 10, none⟩ = some (.int .u64 (a 7 : Int))
theorem DC.gr {w w' : World} {b o : Nat} {a : Nat → Nat} (h : DC w b o a) (g : Gr w w') : DC w' b o a := by
  obtain ⟨h0, h1, h2, h3, h4, h5, h6, h7⟩ := h
  exact ⟨g.cell h0, g.cell h1, g.cell h2, g.cell h3, g.cell h4, g.cell h5, g.cell h6, g.cell h7⟩
theorem XCell.dc {w : World} {b o : Nat} {t : TX} (h : XCell w b o t) : DC w b o t.deps := by
  obtain ⟨v, -, x0, x1, x2, x3, x4, x5, x6, x7, x8, x9, x10, x11⟩ := h
  exact ⟨x3, x4, x5, x6, x7, x8, x9, x10⟩

set_option maxRecDepth 100000 in
set_option maxHeartbeats 4000000 in
theorem rclose_any (u : Nat → S3) (l : LG) (v : Nat → Nat) (w : World) (h : LV w u l) :
    Calls Tryz.prog 11 #[.agg (lcells u), .agg (vcells v)] w fun e w' => ∃ c, e = .returned (.agg (vcells c)) ∧ IsClose l v c ∧ Gr w w' := by
  obtain ⟨W, hW, hg, hsz, hL, hV, hZ⟩ := boxesCl u v w
  have HL := Lib.hid hL
  have HV := Lib.hid hV
  have HZ := Lib.hid hZ
  have HG := Lib.hid hg
  have HXW := Lib.hid h
  have HSZ := Lib.hid (fun w1 (g : Gr W w1) => rsize_any u l w1 ((h.gr hg).gr g))
  have HMT := Lib.hid (fun w1 => rmeet_any v (sizeV l) w1)
  obtain ⟨v0, hv0⟩ : ∃ x, x = mt v (sizeV l) := ⟨_, rfl⟩
  rw [← hv0] at HMT
  have HV0 := Lib.hid hv0
  have HLE : Hid (leqB v0 (sizeV l) = true) := Lib.hid (by rw [hv0]; exact mt_le v l)
  clear hL hV hZ hg hsz h hv0
  go_enter Tryz.func11, Tryz.ntmps11
  go_upto_region 1 with (fail)
  rw [← hW]
  clear hW
  refine qTail 4 (fun w' => LC w' w.heap.size u ∧ VC w' (w.heap.size + 1) v ∧ Gr W w') (by kernel_rfl) (by kernel_rfl) ⟨HL.out.lc.gr (Gr.refl _).drew, HV.out.vc.gr (Gr.refl _).drew, (Gr.refl _).drew⟩ ?_
  simp only [List.take_succ_cons, List.take_zero, List.drop_succ_cons, List.drop_zero]
  iterate 2
    refine qTake (by kernel_rfl) ?_
    apply Exists.intro
    refine ⟨fun wq hq => ?_, ?_⟩
    · go_light
      obtain ⟨⟨l0, l1, l2, l3, l4, l5, l6, l7⟩, ⟨h0, h1, h2, h3, h4, h5, h6, h7⟩, hg⟩ := hq
      go_simp
      try with_reducible rfl
      done
    try simp only [Act.put, List.setIfInBounds_toArray, List.set_cons_zero, List.set_cons_succ]
  refine qCall (by kernel_rfl) ?_
  apply Exists.intro
  refine ⟨?_, ?_⟩
  · apply Exists.intro
    apply Exists.intro
    refine ⟨fun wq => ?_, fun wq hq => ?_⟩
    · go_light
      go_simp
      exact ⟨rfl, rfl⟩
    · exact (HSZ.out wq hq.2.2).mono fun e w'' ⟨he, hg⟩ => ⟨he, hq.1.gr hg, hq.2.1.gr hg, hq.2.2.trans hg⟩
  try simp only [Act.put, List.setIfInBounds_toArray, List.set_cons_zero, List.set_cons_succ]
  refine qCall (by kernel_rfl) ?_
  apply Exists.intro
  refine ⟨?_, ?_⟩
  · apply Exists.intro
    apply Exists.intro
    refine ⟨fun wq => ?_, fun wq hq => ?_⟩
    · go_light
      go_simp
      exact ⟨rfl, rfl⟩
    · exact (HMT.out wq).mono fun e w'' ⟨he, hg⟩ => ⟨he, hq.1.gr hg, hq.2.1.gr hg, hq.2.2.trans hg⟩
  try simp only [Act.put, List.setIfInBounds_toArray, List.set_cons_zero, List.set_cons_succ]
  refine qNil ?_
  intro w3 hC
  have HG3 := Lib.hid hC.2.2
  obtain ⟨y0, y1, y2, y3, y4, y5, y6, y7⟩ := hC.2.1
  obtain ⟨f0, f1, f2, f3, f4, f5, f6, f7⟩ := (HV.out.gr HG3.out).fz
  clear hC
  go_upto_region 2 with (fail)
  clear y0 y1 y2 y3 y4 y5 y6 y7 f0 f1 f2 f3 f4 f5 f6 f7
  change Code.wp Tryz.prog _ _ _ (putCells w3 (w.heap.size + 1) 0 (vcells v0).toList)
  obtain ⟨w4, hw4, hc4⟩ : ∃ x, x = putCells w3 (w.heap.size + 1) 0 (vcells v0).toList ∧ ClD w u v0 x := by
    obtain ⟨hk, hb⟩ := putV8 (HV.out.gr HG3.out) v0
    exact ⟨_, rfl, ⟨hb, ⟨by rw [hk _ (by omega)]; exact (HZ.out.gr HG3.out).box⟩, ⟨by rw [hk _ (by omega)]; exact (HL.out.gr HG3.out).box⟩, Gr.putCells (Nat.le_succ _) _ _ (HG.out.trans HG3.out)⟩⟩
  rw [← hw4]
  have HC4 := Lib.hid hc4
  clear hw4 hc4
  go_wp2_with fail
  go_loopg [5] (2 * sumV v0 + 2) (fun kx s wr => ∃ (bl : Bool) (vv : Nat → Nat), s = .bool bl ∧ 2 * sumV vv + (if bl then 1 else 0) < kx ∧ Hid (ClD w u vv wr ∧ ClI l v0 vv ∧ (bl = false → ∀ j, j < 8 → fineTo l vv j (vv j))))
  case atStart => exact ⟨true, v0, rfl, by simp, Lib.hid ⟨HC4.out, ⟨lq_refl _, fun _ _ h => h⟩, fun e => by cases e⟩⟩
  case round =>
    obtain ⟨bl, vv, rfl, hms, hst⟩ := hrel
    rename World => wo
    rcases bl with _ | _
    · obtain ⟨hcs, hci, hfn⟩ := hst.out
      have HIS : Hid (IsClose l v vv) := Lib.hid ⟨⟨lq_trans hci.le HLE.out, fun i k t hi hk ht => hfn rfl i hi k t hk ht⟩, lq_trans hci.le (by rw [HV0.out]; exact lq_of fun _ _ => Nat.min_le_left _ _), fun x hx hxv => hci.up x hx (by rw [HV0.out]; exact lq_of fun i hi => by have h1 := lq hxv hi; have h2 : x i ≤ sizeV l i := lq hx.1 hi; show _ ≤ min _ _; omega)⟩
      obtain ⟨h0, h1, h2, h3, h4, h5, h6, h7⟩ := hcs.vb.all
      obtain ⟨s0, s1, s2, s3, s4, s5, s6, s7⟩ := hcs.z.zero
      obtain ⟨f0, f1, f2, f3, f4, f5, f6, f7⟩ := hcs.z.fz
      have HGF := Lib.hid hcs.gr
      clear hcs hci hfn hst
      go_wp2_with fail
      refine bodyPost_ret (v := .agg (vcells vv)) (by simp [results, Tryz.results11, go_sem, *]) rfl ⟨vv, rfl, HIS.out, ?_⟩
      show Gr w (putCells wo (w.heap.size + 1 + 1) 0 (vcells vv).toList)
      exact Gr.putCells (by omega) _ _ HGF.out
    · simp only [if_true] at hms
      go_wp2_with fail
      go_loopw [5, 6] (fun s i wr => ∃ (k : Nat) (bl : Bool) (v2 : Nat → Nat), k ≤ 8 ∧ i = .int .i64 k ∧ s = .bool bl ∧ sumV v2 + (if bl then 1 else 0) ≤ sumV vv ∧ Hid (ClD w u v2 wr ∧ ClI l v0 v2 ∧ (bl = false → ∀ j, j < k → fineTo l v2 j (v2 j)))) (fun _ i _ => 8 - (intOf i).toNat)
      case atStart => exact ⟨0, false, vv, by decide, rfl, rfl, by simp, Lib.hid ⟨hst.out.1, hst.out.2.1, fun _ j hj => absurd hj (Nat.not_lt_zero _)⟩⟩
      case round =>
        obtain ⟨k, bl, v2, hk, rfl, rfl, hsum, hst2⟩ := hrel
        rename World => wi
        by_cases hlt : k < 8
        · have hk0 : (0 : Int) ≤ (k : Int) := Int.natCast_nonneg _
          have hk8 : (k : Int) < 8 := by omega
          go_wp2_with fail
          go_loopg [5, 7] (v2 k + 1) (fun kx s i wr => ∃ (bl3 : Bool) (v3 : Nat → Nat) (d : Nat), s = .bool bl3 ∧ i = .int .u64 d ∧ v3 k - d < kx ∧ sumV v3 + (if bl3 then 1 else 0) ≤ sumV vv ∧ Hid (ClD w u v3 wr ∧ ClI l v0 v3 ∧ (bl3 = false → d ≤ v3 k ∧ fineTo l v3 k d ∧ ∀ j, j < k → fineTo l v3 j (v3 j))))
          case atStart => exact ⟨bl, v2, 0, rfl, rfl, by omega, hsum, Lib.hid ⟨hst2.out.1, hst2.out.2.1, fun e => ⟨Nat.zero_le _, fun _ _ he => absurd he (Nat.not_lt_zero _), hst2.out.2.2 e⟩⟩⟩
          case round =>
            obtain ⟨bl3, v3, d, rfl, rfl, hm3, hsum3, hst3⟩ := hrel
            rename World => wr
            have hle3 : v3 k ≤ (l k).length := Nat.le_trans (lq hst3.out.2.1.le hlt) (lq HLE.out hlt)
            have hkv := hst3.out.1.vb.at hlt
            by_cases hdv : d < v3 k
            · have hdl : d < (l k).length := by omega
              have hl8 := HXW.out.le hlt
              obtain ⟨b, off, ha, hx⟩ := (HXW.out.gr hst3.out.1.gr).cell hlt hdl
              have hdc := hx.dc
              obtain ⟨t, ht⟩ : ∃ t, t = (l k)[d] := ⟨_, rfl⟩
              rw [← ht] at hdc
              have HT := Lib.hid (show (l k)[d]? = some t by rw [ht]; exact List.getElem?_eq_getElem hdl)
              have hlk := hst3.out.1.lb.at hlt
              obtain ⟨n, hn⟩ : ∃ n, n = (u k).n := ⟨_, rfl⟩
              obtain ⟨c, hc⟩ : ∃ c, c = (u k).c := ⟨_, rfl⟩
              rw [ha, ← hn, ← hc] at hlk
              have hnl : n = (l k).length := by rw [hn]; exact HXW.out.len hlt
              have hdn : (d : Int) < (n : Int) := by omega
              have hd0 : (0 : Int) ≤ (d : Int) := by omega
              obtain ⟨m, hm⟩ : ∃ m, m = v3 k := ⟨_, rfl⟩
              rw [← hm] at hkv hdv hle3
              have hdm : (d : Int) < (m : Int) := by omega
              obtain ⟨a, hA⟩ : ∃ a, a = t.deps := ⟨_, rfl⟩
              rw [← hA] at hdc
              obtain ⟨r, hr⟩ : ∃ r, r = leqB a v3 := ⟨_, rfl⟩
              have HLQ := Lib.hid (fun w1 => rleq_any a v3 w1)
              rw [← hr] at HLQ
              have HRR : Hid (leqB t.deps v3 = r) := Lib.hid (by rw [hr, hA])
              have HWR := Lib.hid (hst3.out.1.vb.vc)
              have HDC := Lib.hid hdc
              have HLK := Lib.hid hlk
              have HM := Lib.hid hm
              have HW1 : Hid (IntKind.u64.wrap ((d : Int) + 1) = ((d + 1 : Nat) : Int)) := Lib.hid (by simp [IntKind.wrap, IntKind.bits, IntKind.signed]; omega)
              have HDM := Lib.hid (show d < v3 k by rw [← hm]; exact hdv)
              have HDL := Lib.hid hdl
              clear hx hdc ht hlk hn hc hnl hm hA hr ha hdv hle3 hl8 hdl
              go_upto_region 11 with (fail)
              refine qRegion (fun w' => VC w' (w.heap.size + 1) v3 ∧ w'.cell? ⟨w.heap.size, k, none⟩ = some (.slice (some ⟨b, off, none⟩) n c) ∧ DC w' b (off + d * 12) a ∧ Gr wr w') (by kernel_rfl) (by kernel_rfl) ⟨HWR.out.gr (Gr.refl _).drew, (Gr.refl _).drew.cell HLK.out, HDC.out.gr (Gr.refl _).drew, (Gr.refl _).drew⟩ ?_
              iterate 8
                refine qTake (by kernel_rfl) ?_
                apply Exists.intro
                refine ⟨fun wq hq => ?_, ?_⟩
                · go_light
                  obtain ⟨⟨e0, e1, e2, e3, e4, e5, e6, e7⟩, e8, ⟨q0, q1, q2, q3, q4, q5, q6, q7⟩, -⟩ := hq
                  go_simp
                  try with_reducible rfl
                  done
                try simp only [Act.put, List.setIfInBounds_toArray, List.set_cons_zero, List.set_cons_succ]
              refine qCall (by kernel_rfl) ?_
              apply Exists.intro
              refine ⟨?_, ?_⟩
              · apply Exists.intro
                apply Exists.intro
                refine ⟨fun wq => ?_, fun wq hq => ?_⟩
                · go_light
                  go_simp
                  exact ⟨rfl, rfl⟩
                · exact (HLQ.out wq).mono fun e w'' ⟨he, hg⟩ => ⟨he, hq.1.gr hg, hg.cell hq.2.1, hq.2.2.1.gr hg, hq.2.2.2.trans hg⟩
              try simp only [Act.put, List.setIfInBounds_toArray, List.set_cons_zero, List.set_cons_succ]
              iterate 1
                refine qTake (by kernel_rfl) ?_
                apply Exists.intro
                refine ⟨fun wq hq => ?_, ?_⟩
                · go_light
                  obtain ⟨⟨e0, e1, e2, e3, e4, e5, e6, e7⟩, e8, ⟨q0, q1, q2, q3, q4, q5, q6, q7⟩, -⟩ := hq
                  go_simp
                  try with_reducible rfl
                  done
                try simp only [Act.put, List.setIfInBounds_toArray, List.set_cons_zero, List.set_cons_succ]
              refine qNil ?_
              rintro w7 ⟨-, -, -, hg7⟩
              have HST7 := Lib.hid (hst3.out.1.next hg7)
              clear hg7 hkv
              rcases r with _ | _
              · have hfz : w7.frozen? ⟨w.heap.size + 1, k, none⟩ = false := unfrozen_of_block HST7.out.vb.box k
                have hk7 := HST7.out.vb.at hlt
                have HST8 : Hid (ClD w u (upd v3 k d) (w7.setCell ⟨w.heap.size + 1, k, none⟩ (.int .u64 (d : Int))) ∧ ClI l v0 (upd v3 k d) ∧ (true = false → d + 1 ≤ upd v3 k d k ∧ fineTo l (upd v3 k d) k (d + 1) ∧ ∀ j, j < k → fineTo l (upd v3 k d) j (upd v3 k d j))) := Lib.hid ⟨HST7.out.set hlt d, ⟨lq_of fun j hj => by
                    have h1 := lq hst3.out.2.1.le hj
                    unfold upd
                    by_cases q : j = k
                    · subst q; rw [if_pos rfl]; have := HDM.out; omega
                    · rw [if_neg q]; exact h1, close_cut hlt HT.out hst3.out.2.1.up HRR.out⟩, fun e => by cases e⟩
                have hsum4 : sumV (upd v3 k d) + (if true then 1 else 0) ≤ sumV vv := by
                  have h1 := sumTo_upd (v := v3) (k := k) (x := d) (n := 8) hlt
                  have h2 := HDM.out
                  simp only [if_true]
                  unfold sumV at hsum3 ⊢
                  omega
                go_wp2_with fail
                go_roundg (v3 k - d)
                case measure => exact hm3
                case rel => exact ⟨true, upd v3 k d, d + 1, rfl, by rw [HW1.out], by have := HDM.out; unfold upd; rw [if_pos rfl]; omega, hsum4, HST8⟩
              · have HST4 : Hid (ClD w u v3 w7 ∧ ClI l v0 v3 ∧ (bl3 = false → d + 1 ≤ v3 k ∧ fineTo l v3 k (d + 1) ∧ ∀ j, j < k → fineTo l v3 j (v3 j))) := Lib.hid ⟨HST7.out, hst3.out.2.1, fun e => ⟨HDM.out, fineTo_next (hst3.out.2.2 e).2.1 HT.out HRR.out, (hst3.out.2.2 e).2.2⟩⟩
                go_wp2_with fail
                go_roundg (v3 k - d)
                case measure => exact hm3
                case rel => exact ⟨bl3, v3, d + 1, rfl, by rw [HW1.out], by have := HDM.out; omega, hsum3, HST4⟩
            · obtain ⟨m, hm⟩ : ∃ m, m = v3 k := ⟨_, rfl⟩
              rw [← hm] at hkv hdv
              have HST4 : Hid (ClD w u v3 wr ∧ ClI l v0 v3 ∧ (bl3 = false → ∀ j, j < k + 1 → fineTo l v3 j (v3 j))) := Lib.hid ⟨hst3.out.1, hst3.out.2.1, fun e j hj => by
                obtain ⟨h1, h2, h3⟩ := hst3.out.2.2 e
                by_cases q : j = k
                · rw [q, show v3 k = d by omega]; exact h2
                · exact h3 j (by omega)⟩
              clear hm
              go_wp2_with fail
              go_roundw
              case measure => simp [intOf]; omega
              case rel => exact ⟨k + 1, bl3, v3, by omega, by go_num, rfl, hsum3, HST4⟩
        · obtain rfl : k = 8 := by omega
          go_wp2_with fail
          go_roundg (2 * sumV v2 + (if bl then 1 else 0) + 1)
          case measure => cases bl <;> simp at hsum ⊢ <;> omega
          case rel => exact ⟨bl, v2, rfl, Nat.lt_succ_self _, hst2⟩
theorem rclose_det (u : Nat → S3) (l : LG) (v : Nat → Nat) (w : World) (h : LV w u l) :
    Calls Tryz.prog 11 #[.agg (lcells u), .agg (vcells v)] w fun e w' => e = .returned (.agg (vcells (closeV l v))) ∧ Gr w w' :=
  (rclose_any u l v w h).mono fun e w' ⟨c, he, hc, hg⟩ => ⟨by rw [he, close_eq hc], hg⟩
end Go.Proofs.YtlihcjlonafohaaGreat
namespace Go.Proofs.YtlihcjlonafohaaGreat
open Go.RowKit Go.Joins
set_option linter.unusedSimpArgs false
set_option linter.unusedVariables false

/-- By stamps, then by origins, then by numbers. -/
def aheadB (a b : TX) : Bool := if a.stamp = b.stamp then (if a.origin = b.origin then decide (a.seq < b.seq) else decide (a.origin < b.origin)) else decide (a.stamp < b.stamp)
/-- The place from k down that t goes to. -/
def plc (t : TX) (L : List TX) : Nat → Nat
  | 0 => 0
  | k + 1 => match L[k]? with | some x => if aheadB t x = true then plc t L k else k + 1 | none => k + 1
theorem plc_yes {t x : TX} {L : List TX} {k : Nat} (h : L[k]? = some x) (ha : aheadB t x = true) : plc t L (k + 1) = plc t L k := by
  show (match L[k]? with | some x => _ | none => _) = _
  rw [h]; simp only [ha, if_true]
theorem plc_no {t x : TX} {L : List TX} {k : Nat} (h : L[k]? = some x) (ha : aheadB t x = false) : plc t L (k + 1) = k + 1 := by
  show (match L[k]? with | some x => _ | none => _) = _
  rw [h]; simp [ha]
theorem plc_le (t : TX) (L : List TX) : ∀ k, plc t L k ≤ k
  | 0 => Nat.le_refl _
  | k + 1 => by
    have := plc_le t L k
    unfold plc
    split
    · split <;> omega
    · omega
def insT (t : TX) (L : List TX) : List TX := L.take (plc t L L.length) ++ t :: L.drop (plc t L L.length)
theorem insT_len (t : TX) (L : List TX) : (insT t L).length = L.length + 1 := by
  have := plc_le t L L.length
  unfold insT
  rw [List.length_append, List.length_cons, List.length_take, List.length_drop]
  omega
def ordIn (l : LG) (i : Nat) (acc : List TX) : Nat → List TX
  | 0 => acc
  | d + 1 => match (l i)[d]? with | some t => insT t (ordIn l i acc d) | none => ordIn l i acc d
def ordTo (l : LG) (v : Nat → Nat) : Nat → List TX
  | 0 => []
  | i + 1 => ordIn l i (ordTo l v i) (v i)
/-- What the document's Order answers. -/
def ordR (l : LG) (v : Nat → Nat) : List TX := ordTo l (mt v (sizeV l)) 8
theorem ordIn_at {l : LG} {i d : Nat} {acc : List TX} {t : TX} (h : (l i)[d]? = some t) : ordIn l i acc (d + 1) = insT t (ordIn l i acc d) := by
  show (match (l i)[d]? with | some t => _ | none => _) = _
  rw [h]
theorem ordIn_len (l : LG) (i : Nat) (acc : List TX) : ∀ d, d ≤ (l i).length → (ordIn l i acc d).length = acc.length + d
  | 0, _ => rfl
  | d + 1, h => by
    rw [ordIn_at (List.getElem?_eq_getElem (by omega)), insT_len, ordIn_len l i acc d (by omega)]
    omega
theorem ordTo_len (l : LG) (v : Nat → Nat) : ∀ i, (∀ j, j < i → v j ≤ (l j).length) → (ordTo l v i).length = sumTo v i
  | 0, _ => rfl
  | i + 1, h => by
    show (ordIn l i (ordTo l v i) (v i)).length = sumTo v i + v i
    rw [ordIn_len l i _ _ (h i (by omega)), ordTo_len l v i fun j hj => h j (by omega)]
theorem ordR_len (l : LG) (v : Nat → Nat) : (ordR l v).length = sumV (mt v (sizeV l)) := ordTo_len l _ 8 fun j _ => Nat.min_le_right _ _
/-- append of one transaction to a row of the call's own, in a region's forced order. -/
theorem wpList_push_tx {W : World} {ops : Array Oper} {rest : List Oper} {o : Oper} {a : Act} {Q : Exit → Act → World → Prop} (hw : Region.wanted o (yielded ops a.tmps) = true) (s x : Operand)
    (ho : o.op = .call { callee := .builtin .append, args := #[s, x], argTypes := #[22, 22] })
    (B : Nat) (v : Value) (n bn : Nat) (R : List TR) (t : TR) (hs : a.eval s = v) (hx : a.eval x = .slice (some ⟨bn, 0, none⟩) 1 1) (hown : W.ownsRow B 45 12 v n (trs R)) (ht : XFix W bn 0 t.1 t.2.v)
    (hlen : (n + 1) * 112 ≤ 140737488355328) (hB : B ≤ W.heap.size)
    (h : ∀ A' c' w', w'.ownsRow B 45 12 (.slice A' (n + 1) c') (n + 1) (trs (R ++ [t])) → W.grownBy w' v.ownBlock → ((Value.slice A' (n + 1) c').ownBlock = v.ownBlock ∨ (Value.slice A' (n + 1) c').ownBlock = some W.heap.size) → wpList Tryz.prog ops Q rest (a.put o.dst (.slice A' (n + 1) c')) w') :
    wpList Tryz.prog ops Q (o :: rest) a W := by
  obtain ⟨i0, hi, hz0, hz1, hz2⟩ := info_parts infoTxn
  have h1 : ∀ u ∈ trcells t, u.oneCell' = true := fun u hu => trs_one [t] u (by unfold trs; simpa using hu)
  refine Go.BigFrame.wpList_want hw (fun K hK => ?_)
  refine wp_append_sl W s x 22 ho B 45 i0 _ 12 112 Tryz.underlying22 hi hz0 hz1 hz2 rfl (by decide) v n (trs R) hs hown (.slice (some ⟨bn, 0, none⟩) 1 1) 1 (trcells t) hx
    ⟨_, 1, rfl, Nat.le_refl _, ⟨by unfold maxLen; omega, fun e => by cases e⟩, by rw [trcells_len], fun j u hj => ⟨bn, 0, rfl, trcells_at ht hj⟩⟩ h1 (by unfold maxLen; omega) hlen hB (n + 1) rfl ?_
  intro A' c' w' hown' hgr hbk
  rw [← trs_snoc] at hown'
  exact hK _ _ (h A' c' w' hown' hgr hbk)
set_option maxRecDepth 100000 in
set_option maxHeartbeats 2000000 in
theorem ahead_any (a b : TX) (Aa Ab : Option Addr) (na ca nb cb : Nat) (w : World) :
    Calls Tryz.prog 42 #[.agg (tcs a (.slice Aa na ca)), .agg (tcs b (.slice Ab nb cb))] w fun e w' => e = .returned (.bool (aheadB a b)) ∧ Gr w w' := by
  obtain ⟨W1, hW1, hg1, hx1⟩ := xbox w a (.slice Aa na ca)
  obtain ⟨W2, hW2, hg2, hx2⟩ := xbox W1 b (.slice Ab nb cb)
  have hs : W1.heap.size = w.heap.size + 1 := by rw [hW1]; simp
  rw [hs] at hx2
  obtain ⟨x0, x1, x2, -⟩ := hx1.gr hg2
  obtain ⟨y0, y1, y2, -⟩ := hx2
  have HG := Lib.hid (hg1.trans hg2)
  obtain ⟨r, hr⟩ : ∃ r, r = aheadB a b := ⟨_, rfl⟩
  rw [← hr]
  have HR := Lib.hid hr
  rw [hW1] at hW2
  clear hW1 hg1 hg2 hx1 hs hr
  by_cases h1 : a.stamp = b.stamp
  · rw [← h1] at y2
    by_cases h2 : a.origin = b.origin
    · rw [← h2] at y0
      have HD : Hid (r = decide (a.seq < b.seq)) := Lib.hid (by rw [HR.out]; unfold aheadB; rw [if_pos h1, if_pos h2])
      clear h1 h2
      by_cases h3 : a.seq < b.seq
      · have h3' : (a.seq : Int) < (b.seq : Int) := by omega
        have HE : Hid (r = true) := Lib.hid (by rw [HD.out]; exact decide_eq_true h3)
        go_enter Tryz.func42, Tryz.ntmps42
        go_upto_region 1 with (fail)
        rw [← hW2]
        clear hW2
        go_wp2_with fail
        go_ret
        exact ⟨by rw [HE.out]; rfl, HG.out⟩
      · have h3' : ¬ (a.seq : Int) < (b.seq : Int) := by omega
        have HE : Hid (r = false) := Lib.hid (by rw [HD.out]; exact decide_eq_false h3)
        go_enter Tryz.func42, Tryz.ntmps42
        go_upto_region 1 with (fail)
        rw [← hW2]
        clear hW2
        go_wp2_with fail
        go_ret
        exact ⟨by rw [HE.out]; rfl, HG.out⟩
    · have HD : Hid (r = decide (a.origin < b.origin)) := Lib.hid (by rw [HR.out]; unfold aheadB; rw [if_pos h1, if_neg h2])
      clear h1
      by_cases h3 : a.origin < b.origin
      · have HE : Hid (r = true) := Lib.hid (by rw [HD.out]; exact decide_eq_true h3)
        go_enter Tryz.func42, Tryz.ntmps42
        go_upto_region 1 with (fail)
        rw [← hW2]
        clear hW2
        go_wp2_with fail
        go_ret
        exact ⟨by rw [HE.out]; rfl, HG.out⟩
      · have HE : Hid (r = false) := Lib.hid (by rw [HD.out]; exact decide_eq_false h3)
        go_enter Tryz.func42, Tryz.ntmps42
        go_upto_region 1 with (fail)
        rw [← hW2]
        clear hW2
        go_wp2_with fail
        go_ret
        exact ⟨by rw [HE.out]; rfl, HG.out⟩
  · have HD : Hid (r = decide (a.stamp < b.stamp)) := Lib.hid (by rw [HR.out]; unfold aheadB; rw [if_neg h1])
    have h1' : ¬ (a.stamp : Int) = (b.stamp : Int) := by omega
    by_cases h3 : a.stamp < b.stamp
    · have h3' : (a.stamp : Int) < (b.stamp : Int) := by omega
      have HE : Hid (r = true) := Lib.hid (by rw [HD.out]; exact decide_eq_true h3)
      go_enter Tryz.func42, Tryz.ntmps42
      go_upto_region 1 with (fail)
      rw [← hW2]
      clear hW2
      go_wp2_with fail
      go_ret
      exact ⟨by rw [HE.out]; rfl, HG.out⟩
    · have h3' : ¬ (a.stamp : Int) < (b.stamp : Int) := by omega
      have HE : Hid (r = false) := Lib.hid (by rw [HD.out]; exact decide_eq_false h3)
      go_enter Tryz.func42, Tryz.ntmps42
      go_upto_region 1 with (fail)
      rw [← hW2]
      clear hW2
      go_wp2_with fail
      go_ret
      exact ⟨by rw [HE.out]; rfl, HG.out⟩
end Go.Proofs.YtlihcjlonafohaaGreat
