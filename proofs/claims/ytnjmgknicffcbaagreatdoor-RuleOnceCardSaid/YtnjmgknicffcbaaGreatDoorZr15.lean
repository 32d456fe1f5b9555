/- The law CutCloses. Walks: the document's Close. -/
import Derived.Test.YtnjmgknicffcbaaGreatDoorZr14
import Derived.Test.YtnjmgknicffcbaaGreatDoorZr11
import Derived.Test.YtnjmgknicffcbaaGreatDoorZr08
namespace Go.Proofs.YtnjmgknicffcbaaGreatDoor
open Go.RowKit Go.Joins

/-- What the region of the two calls of Close has left so far. -/
structure I9 (W : World) (F : Nat → Value) (p q : Nat → Nat) (vals : Vals) (w : World) : Prop where
  gr : Gr W w
  fx : ∀ k, k < 6 → ∀ y, vals k = some y → y = F k
  a : ∀ y, vals 6 = some y → ∃ b, y = .pointer (some ⟨b, 0, none⟩) ∧ W.heap.size ≤ b ∧ VBox w b (fun i => if (vals 8).isSome then p i else 0)
  b : ∀ y, vals 7 = some y → ∃ b, y = .pointer (some ⟨b, 0, none⟩) ∧ W.heap.size ≤ b ∧ VBox w b (fun i => if (vals 9).isSome then q i else 0)
  ne : ∀ b b', vals 6 = some (.pointer (some ⟨b, 0, none⟩)) → vals 7 = some (.pointer (some ⟨b', 0, none⟩)) → b ≠ b'
  sa : vals 6 = none → vals 8 = none
  sb : vals 7 = none → vals 9 = none
theorem I9.next {W : World} {F : Nat → Value} {p q : Nat → Nat} {vals : Vals} {w w' : World} (h : I9 W F p q vals w) (g : Gr w w') : I9 W F p q vals w' :=
  ⟨h.gr.trans g, h.fx, fun y hy => by obtain ⟨b, h1, h2, h3⟩ := h.a y hy; exact ⟨b, h1, h2, h3.gr g⟩, fun y hy => by obtain ⟨b, h1, h2, h3⟩ := h.b y hy; exact ⟨b, h1, h2, h3.gr g⟩, h.ne, h.sa, h.sb⟩
theorem I9.up {W : World} {F : Nat → Value} {p q : Nat → Nat} {vals : Vals} {w : World} (h : I9 W F p q vals w) {k : Nat} (hk : k < 6) : I9 W F p q (vals.up k (F k)) w := by
  have e : ∀ j, 6 ≤ j → vals.up k (F k) j = vals j := fun j hj => Vals.up_ne vals _ (by omega)
  refine ⟨h.gr, fun j hj y hy => ?_, ?_, ?_, ?_, ?_, ?_⟩
  · by_cases q : j = k
    · subst q
      rw [Vals.up_at] at hy
      injection hy with hy
      exact hy.symm
    · rw [Vals.up_ne vals _ q] at hy
      exact h.fx j hj y hy
  · rw [e 6 (by decide), e 8 (by decide)]; exact h.a
  · rw [e 7 (by decide), e 9 (by decide)]; exact h.b
  · rw [e 6 (by decide), e 7 (by decide)]; exact h.ne
  · rw [e 6 (by decide), e 8 (by decide)]; exact h.sa
  · rw [e 7 (by decide), e 9 (by decide)]; exact h.sb
theorem VBox.lt {w : World} {b : Nat} {a : Nat → Nat} (h : VBox w b a) : b < w.heap.size := (Array.getElem?_eq_some_iff.1 h.box).1
theorem I9.putA {W : World} {F : Nat → Value} {p q : Nat → Nat} {vals : Vals} {w : World} {b : Nat} (h : I9 W F p q vals w) (hv : vals 6 = some (.pointer (some ⟨b, 0, none⟩))) : I9 W F p q (vals.up 8 undef) (putCells w b 0 (vcells p).toList) := by
  have e : ∀ j, j ≠ 8 → vals.up 8 undef j = vals j := fun j hj => Vals.up_ne vals _ hj
  obtain ⟨b1, x1, x2, x3⟩ := h.a _ hv
  injection x1 with x1
  injection x1 with x1
  injection x1 with x1
  subst x1
  obtain ⟨hk, hb⟩ := putV8 x3 p
  refine ⟨Gr.putCells x2 _ _ h.gr, fun j hj y hy => h.fx j hj y (by rw [← e j (by omega)]; exact hy), fun y hy => ?_, fun y hy => ?_, ?_, fun hz => ?_, fun hz => ?_⟩
  · rw [e 6 (by decide), hv] at hy
    injection hy with hy
    refine ⟨b, hy.symm, x2, ?_⟩
    rw [Vals.up_at]
    exact hb
  · rw [e 7 (by decide)] at hy
    obtain ⟨b2, y1, y2, y3⟩ := h.b y hy
    rw [e 9 (by decide)]
    subst y1
    exact ⟨b2, rfl, y2, ⟨by rw [hk _ (fun q => h.ne b b2 hv hy q.symm)]; exact y3.box⟩⟩
  · rw [e 6 (by decide), e 7 (by decide)]; exact h.ne
  · rw [e 6 (by decide), hv] at hz; cases hz
  · rw [e 7 (by decide)] at hz; rw [e 9 (by decide)]; exact h.sb hz
theorem slotE {A : Act} {t : Nat} {v : Value} (h : A.eval (.tmp t) = v) : A.tmps[t]?.getD undef = v := by
  rw [← Array.getD_eq_getD_getElem?]
  exact h
end Go.Proofs.YtnjmgknicffcbaaGreatDoor
namespace Go.Proofs.YtnjmgknicffcbaaGreatDoor
open Go.RowKit Go.Joins

/-- A transaction at this place depends on more than the cut: no closed cut within reaches it. -/
theorem close_cut {l : LG} {v0 v : Nat → Nat} {k d : Nat} {t : TX} (hk : k < 8) (ht : (l k)[d]? = some t) (h : ∀ u, closedP l u → leqB u v0 = true → leqB u v = true) (hn : leqB t.deps v = false) : ∀ u, closedP l u → leqB u v0 = true → leqB u (upd v k d) = true := by
  intro u hu h0
  have h1 := h u hu h0
  refine lq_of fun j hj => ?_
  unfold upd
  by_cases e : j = k
  · subst e
    rw [if_pos rfl]
    rcases Nat.lt_or_ge d (u j) with q | q
    · exfalso
      have := lq_trans (hu.2 j d t hj q ht) h1
      rw [hn] at this
      cases this
    · exact q
  · rw [if_neg e]
    exact lq h1 hj
/-- Of member j the first d transactions depend on nothing beyond the cut. -/
def fineTo (l : LG) (v : Nat → Nat) (j d : Nat) : Prop := ∀ e t, e < d → (l j)[e]? = some t → leqB t.deps v = true
theorem fineTo_next {l : LG} {v : Nat → Nat} {j d : Nat} {t : TX} (h : fineTo l v j d) (ht : (l j)[d]? = some t) (h2 : leqB t.deps v = true) : fineTo l v j (d + 1) := fun e x he hx => by
  by_cases q : e = d
  · subst q
    rw [ht] at hx
    injection hx with hx
    rw [← hx]; exact h2
  · exact h e x (by omega) hx
/-- What the document's Close has in memory. -/
structure ClD (w : World) (u : Nat → S3) (v : Nat → Nat) (wr : World) : Prop where
  vb : VBox wr (w.heap.size + 1) v
  z : VBox wr (w.heap.size + 1 + 1) (fun _ => 0)
  lb : LBox wr w.heap.size u
  gr : Gr w wr
theorem ClD.next {w : World} {u : Nat → S3} {v : Nat → Nat} {a b : World} (h : ClD w u v a) (g : Gr a b) : ClD w u v b := ⟨h.vb.gr g, h.z.gr g, h.lb.gr g, h.gr.trans g⟩
theorem ClD.set {w : World} {u : Nat → S3} {v : Nat → Nat} {a : World} (h : ClD w u v a) {k : Nat} (hk : k < 8) (x : Nat) : ClD w u (upd v k x) (a.setCell ⟨w.heap.size + 1, k, none⟩ (.int .u64 (x : Int))) :=
  ⟨h.vb.set hk x, h.z.far (by simp only []; omega) _, h.lb.far (by simp only []; omega) _, h.gr.setCell (by simp only []; omega) _⟩
/-- The eight cells of a transaction's vector. -/
def DC (w : World) (b o : Nat) (a : Nat → Nat) : Prop := w.cell? ⟨b, o + 3, none⟩ = some (.int .u64 (a 0 : Int)) ∧ w.cell? ⟨b, o + 4, none⟩ = some (.int .u64 (a 1 : Int)) ∧ w.cell? ⟨b, o + 5, none⟩ = some (.int .u64 (a 2 : Int)) ∧ w.cell? ⟨b, o + 6, none⟩ = some (.int .u64 (a 3 : Int)) ∧ w.cell? ⟨b, o + 7, none⟩ = some (.int .u64 (a 4 : Int)) ∧ w.cell? ⟨b, o + 8, none⟩ = some (.int .u64 (a 5 : Int)) ∧ w.cell? ⟨b, o + 9, none⟩ = some (.int .u64 (a 6 : Int)) ∧ w.cell? ⟨b, o + 10, none⟩ = some (.int .u64 (a 7 : Int))
theorem DC.gr {w w' : World} {b o : Nat} {a : Nat → Nat} (h : DC w b o a) (g : Gr w w') : DC w' b o a := by
  obtain ⟨h0, h1, h2, h3, h4, h5, h6, h7⟩ := h
  exact ⟨g.cell h0, g.cell h1, g.cell h2, g.cell h3, g.cell h4, g.cell h5, g.cell h6, g.cell h7⟩
theorem XCell.dc {w : World} {b o : Nat} {t : TX} (h : XCell w b o t) : DC w b o t.deps := by
  obtain ⟨v, -, x0, x1, x2, x3, x4, x5, x6, x7, x8, x9, x10, x11⟩ := h
  exact ⟨x3, x4, x5, x6, x7, x8, x9, x10⟩

set_option maxRecDepth 100000 in
set_option maxHeartbeats 4000000 in
theorem rclose_any (u : Nat → S3) (l : LG) (v : Nat → Nat) (w : World) (h : LV w u l) :
    Calls Tryz.prog 25 #[.agg (lcells u), .agg (vcells v)] w fun e w' => ∃ c, e = .returned (.agg (vcells c)) ∧ IsClose l v c ∧ Gr w w' := by
  obtain ⟨W, hW, hg, hsz, hL, hV, hZ⟩ := boxesCl u v w
  have HL := Lib.hid hL
  have HV := Lib.hid hV
  have HZ := Lib.hid hZ
  have HG := Lib.hid hg
  have HXW := Lib.hid h
  have HSZ := Lib.hid (fun w1 (g : Gr W w1) => rsize_any u l w1 ((h.gr hg).gr g))
  have HMT := Lib.hid (fun w1 => rmeet_any v (sizeV l) w1)
  obtain ⟨v0, hv0⟩ : ∃ x, x = mt v (sizeV l) := ⟨_, rfl⟩
  rw [← hv0] at HMT
  have HV0 := Lib.hid hv0
  have HLE : Hid (leqB v0 (sizeV l) = true) := Lib.hid (by rw [hv0]; exact mt_le v l)
  clear hL hV hZ hg hsz h hv0
  go_enter Tryz.func25, Tryz.ntmps25
  go_upto_region 1 with (fail)
  rw [← hW]
  clear hW
  refine qTail 4 (fun w' => LC w' w.heap.size u ∧ VC w' (w.heap.size + 1) v ∧ Gr W w') (by kernel_rfl) (by kernel_rfl) ⟨HL.out.lc.gr (Gr.refl _).drew, HV.out.vc.gr (Gr.refl _).drew, (Gr.refl _).drew⟩ ?_
  simp only [List.take_succ_cons, List.take_zero, List.drop_succ_cons, List.drop_zero]
  iterate 2
    refine qTake (by kernel_rfl) ?_
    apply Exists.intro
    refine ⟨fun wq hq => ?_, ?_⟩
    · go_light
      obtain ⟨⟨l0, l1, l2, l3, l4, l5, l6, l7⟩, ⟨h0, h1, h2, h3, h4, h5, h6, h7⟩, hg⟩ := hq
      go_simp
      try with_reducible rfl
      done
    try simp only [Act.put, List.setIfInBounds_toArray, List.set_cons_zero, List.set_cons_succ]
  refine qCall (by kernel_rfl) ?_
  apply Exists.intro
  refine ⟨?_, ?_⟩
  · apply Exists.intro
    apply Exists.intro
    refine ⟨fun wq => ?_, fun wq hq => ?_⟩
    · go_light
      go_simp
      exact ⟨rfl, rfl⟩
    · exact (HSZ.out wq hq.2.2).mono fun e w'' ⟨he, hg⟩ => ⟨he, hq.1.gr hg, hq.2.1.gr hg, hq.2.2.trans hg⟩
  try simp only [Act.put, List.setIfInBounds_toArray, List.set_cons_zero, List.set_cons_succ]
  refine qCall (by kernel_rfl) ?_
  apply Exists.intro
  refine ⟨?_, ?_⟩
  · apply Exists.intro
    apply Exists.intro
    refine ⟨fun wq => ?_, fun wq hq => ?_⟩
    · go_light
      go_simp
      exact ⟨rfl, rfl⟩
    · exact (HMT.out wq).mono fun e w'' ⟨he, hg⟩ => ⟨he, hq.1.gr hg, hq.2.1.gr hg, hq.2.2.trans hg⟩
  try simp only [Act.put, List.setIfInBounds_toArray, List.set_cons_zero, List.set_cons_succ]
  refine qNil ?_
  intro w3 hC
  have HG3 := Lib.hid hC.2.2
  obtain ⟨y0, y1, y2, y3, y4, y5, y6, y7⟩ := hC.2.1
  obtain ⟨f0, f1, f2, f3, f4, f5, f6, f7⟩ := (HV.out.gr HG3.out).fz
  clear hC
  go_upto_region 2 with (fail)
  clear y0 y1 y2 y3 y4 y5 y6 y7 f0 f1 f2 f3 f4 f5 f6 f7
  change Code.wp Tryz.prog _ _ _ (putCells w3 (w.heap.size + 1) 0 (vcells v0).toList)
  obtain ⟨w4, hw4, hc4⟩ : ∃ x, x = putCells w3 (w.heap.size + 1) 0 (vcells v0).toList ∧ ClD w u v0 x := by
    obtain ⟨hk, hb⟩ := putV8 (HV.out.gr HG3.out) v0
    exact ⟨_, rfl, ⟨hb, ⟨by rw [hk _ (by omega)]; exact (HZ.out.gr HG3.out).box⟩, ⟨by rw [hk _ (by omega)]; exact (HL.out.gr HG3.out).box⟩, Gr.putCells (Nat.le_succ _) _ _ (HG.out.trans HG3.out)⟩⟩
  rw [← hw4]
  have HC4 := Lib.hid hc4
  clear hw4 hc4
  go_wp2_with fail
  go_loopg [5] (2 * sumV v0 + 2) (fun kx s wr => ∃ (bl : Bool) (vv : Nat → Nat), s = .bool bl ∧ 2 * sumV vv + (if bl then 1 else 0) < kx ∧ Hid (ClD w u vv wr ∧ ClI l v0 vv ∧ (bl = false → ∀ j, j < 8 → fineTo l vv j (vv j))))
  case atStart => exact ⟨true, v0, rfl, by simp, Lib.hid ⟨HC4.out, ⟨lq_refl _, fun _ _ h => h⟩, fun e => by cases e⟩⟩
  case round =>
    obtain ⟨bl, vv, rfl, hms, hst⟩ := hrel
    rename World => wo
    rcases bl with _ | _
    · obtain ⟨hcs, hci, hfn⟩ := hst.out
      have HIS : Hid (IsClose l v vv) := Lib.hid ⟨⟨lq_trans hci.le HLE.out, fun i k t hi hk ht => hfn rfl i hi k t hk ht⟩, lq_trans hci.le (by rw [HV0.out]; exact lq_of fun _ _ => Nat.min_le_left _ _), fun x hx hxv => hci.up x hx (by rw [HV0.out]; exact lq_of fun i hi => by have h1 := lq hxv hi; have h2 : x i ≤ sizeV l i := lq hx.1 hi; show _ ≤ min _ _; omega)⟩
      obtain ⟨h0, h1, h2, h3, h4, h5, h6, h7⟩ := hcs.vb.all
      obtain ⟨s0, s1, s2, s3, s4, s5, s6, s7⟩ := hcs.z.zero
      obtain ⟨f0, f1, f2, f3, f4, f5, f6, f7⟩ := hcs.z.fz
      have HGF := Lib.hid hcs.gr
      clear hcs hci hfn hst
      go_wp2_with fail
      refine bodyPost_ret (v := .agg (vcells vv)) (by simp [results, Tryz.results25, go_sem, *]) rfl ⟨vv, rfl, HIS.out, ?_⟩
      show Gr w (putCells wo (w.heap.size + 1 + 1) 0 (vcells vv).toList)
      exact Gr.putCells (by omega) _ _ HGF.out
    · simp only [if_true] at hms
      go_wp2_with fail
      go_loopw [5, 6] (fun s i wr => ∃ (k : Nat) (bl : Bool) (v2 : Nat → Nat), k ≤ 8 ∧ i = .int .i64 k ∧ s = .bool bl ∧ sumV v2 + (if bl then 1 else 0) ≤ sumV vv ∧ Hid (ClD w u v2 wr ∧ ClI l v0 v2 ∧ (bl = false → ∀ j, j < k → fineTo l v2 j (v2 j)))) (fun _ i _ => 8 - (intOf i).toNat)
      case atStart => exact ⟨0, false, vv, by decide, rfl, rfl, by simp, Lib.hid ⟨hst.out.1, hst.out.2.1, fun _ j hj => absurd hj (Nat.not_lt_zero _)⟩⟩
      case round =>
        obtain ⟨k, bl, v2, hk, rfl, rfl, hsum, hst2⟩ := hrel
        rename World => wi
        by_cases hlt : k < 8
        · have hk0 : (0 : Int) ≤ (k : Int) := Int.natCast_nonneg _
          have hk8 : (k : Int) < 8 := by omega
          go_wp2_with fail
          go_loopg [5, 7] (v2 k + 1) (fun kx s i wr => ∃ (bl3 : Bool) (v3 : Nat → Nat) (d : Nat), s = .bool bl3 ∧ i = .int .u64 d ∧ v3 k - d < kx ∧ sumV v3 + (if bl3 then 1 else 0) ≤ sumV vv ∧ Hid (ClD w u v3 wr ∧ ClI l v0 v3 ∧ (bl3 = false → d ≤ v3 k ∧ fineTo l v3 k d ∧ ∀ j, j < k → fineTo l v3 j (v3 j))))
          case atStart => exact ⟨bl, v2, 0, rfl, rfl, by omega, hsum, Lib.hid ⟨hst2.out.1, hst2.out.2.1, fun e => ⟨Nat.zero_le _, fun _ _ he => absurd he (Nat.not_lt_zero _), hst2.out.2.2 e⟩⟩⟩
          case round =>
            obtain ⟨bl3, v3, d, rfl, rfl, hm3, hsum3, hst3⟩ := hrel
            rename World => wr
            have hle3 : v3 k ≤ (l k).length := Nat.le_trans (lq hst3.out.2.1.le hlt) (lq HLE.out hlt)
            have hkv := hst3.out.1.vb.at hlt
            by_cases hdv : d < v3 k
            · have hdl : d < (l k).length := by omega
              have hl8 := HXW.out.le hlt
              obtain ⟨b, off, ha, hx⟩ := (HXW.out.gr hst3.out.1.gr).cell hlt hdl
              have hdc := hx.dc
              obtain ⟨t, ht⟩ : ∃ t, t = (l k)[d] := ⟨_, rfl⟩
              rw [← ht] at hdc
              have HT := Lib.hid (show (l k)[d]? = some t by rw [ht]; exact List.getElem?_eq_getElem hdl)
              have hlk := hst3.out.1.lb.at hlt
              obtain ⟨n, hn⟩ : ∃ n, n = (u k).n := ⟨_, rfl⟩
              obtain ⟨c, hc⟩ : ∃ c, c = (u k).c := ⟨_, rfl⟩
              rw [ha, ← hn, ← hc] at hlk
              have hnl : n = (l k).length := by rw [hn]; exact HXW.out.len hlt
              have hdn : (d : Int) < (n : Int) := by omega
              have hd0 : (0 : Int) ≤ (d : Int) := by omega
              obtain ⟨m, hm⟩ : ∃ m, m = v3 k := ⟨_, rfl⟩
              rw [← hm] at hkv hdv hle3
              have hdm : (d : Int) < (m : Int) := by omega
              obtain ⟨a, hA⟩ : ∃ a, a = t.deps := ⟨_, rfl⟩
              rw [← hA] at hdc
              obtain ⟨r, hr⟩ : ∃ r, r = leqB a v3 := ⟨_, rfl⟩
              have HLQ := Lib.hid (fun w1 => rleq_any a v3 w1)
              rw [← hr] at HLQ
              have HRR : Hid (leqB t.deps v3 = r) := Lib.hid (by rw [hr, hA])
              have HWR := Lib.hid (hst3.out.1.vb.vc)
              have HDC := Lib.hid hdc
              have HLK := Lib.hid hlk
              have HM := Lib.hid hm
              have HW1 : Hid (IntKind.u64.wrap ((d : Int) + 1) = ((d + 1 : Nat) : Int)) := Lib.hid (by simp [IntKind.wrap, IntKind.bits, IntKind.signed]; omega)
              have HDM := Lib.hid (show d < v3 k by rw [← hm]; exact hdv)
              have HDL := Lib.hid hdl
              clear hx hdc ht hlk hn hc hnl hm hA hr ha hdv hle3 hl8 hdl
              go_upto_region 11 with (fail)
              refine qRegion (fun w' => VC w' (w.heap.size + 1) v3 ∧ w'.cell? ⟨w.heap.size, k, none⟩ = some (.slice (some ⟨b, off, none⟩) n c) ∧ DC w' b (off + d * 12) a ∧ Gr wr w') (by kernel_rfl) (by kernel_rfl) ⟨HWR.out.gr (Gr.refl _).drew, (Gr.refl _).drew.cell HLK.out, HDC.out.gr (Gr.refl _).drew, (Gr.refl _).drew⟩ ?_
              iterate 8
                refine qTake (by kernel_rfl) ?_
                apply Exists.intro
                refine ⟨fun wq hq => ?_, ?_⟩
                · go_light
                  obtain ⟨⟨e0, e1, e2, e3, e4, e5, e6, e7⟩, e8, ⟨q0, q1, q2, q3, q4, q5, q6, q7⟩, -⟩ := hq
                  go_simp
                  try with_reducible rfl
                  done
                try simp only [Act.put, List.setIfInBounds_toArray, List.set_cons_zero, List.set_cons_succ]
              refine qCall (by kernel_rfl) ?_
              apply Exists.intro
              refine ⟨?_, ?_⟩
              · apply Exists.intro
                apply Exists.intro
                refine ⟨fun wq => ?_, fun wq hq => ?_⟩
                · go_light
                  go_simp
                  exact ⟨rfl, rfl⟩
                · exact (HLQ.out wq).mono fun e w'' ⟨he, hg⟩ => ⟨he, hq.1.gr hg, hg.cell hq.2.1, hq.2.2.1.gr hg, hq.2.2.2.trans hg⟩
              try simp only [Act.put, List.setIfInBounds_toArray, List.set_cons_zero, List.set_cons_succ]
              iterate 1
                refine qTake (by kernel_rfl) ?_
                apply Exists.intro
                refine ⟨fun wq hq => ?_, ?_⟩
                · go_light
                  obtain ⟨⟨e0, e1, e2, e3, e4, e5, e6, e7⟩, e8, ⟨q0, q1, q2, q3, q4, q5, q6, q7⟩, -⟩ := hq
                  go_simp
                  try with_reducible rfl
                  done
                try simp only [Act.put, List.setIfInBounds_toArray, List.set_cons_zero, List.set_cons_succ]
              refine qNil ?_
              rintro w7 ⟨-, -, -, hg7⟩
              have HST7 := Lib.hid (hst3.out.1.next hg7)
              clear hg7 hkv
              rcases r with _ | _
              · have hfz : w7.frozen? ⟨w.heap.size + 1, k, none⟩ = false := unfrozen_of_block HST7.out.vb.box k
                have hk7 := HST7.out.vb.at hlt
                have HST8 : Hid (ClD w u (upd v3 k d) (w7.setCell ⟨w.heap.size + 1, k, none⟩ (.int .u64 (d : Int))) ∧ ClI l v0 (upd v3 k d) ∧ (true = false → d + 1 ≤ upd v3 k d k ∧ fineTo l (upd v3 k d) k (d + 1) ∧ ∀ j, j < k → fineTo l (upd v3 k d) j (upd v3 k d j))) := Lib.hid ⟨HST7.out.set hlt d, ⟨lq_of fun j hj => by
                    have h1 := lq hst3.out.2.1.le hj
                    unfold upd
                    by_cases q : j = k
                    · subst q; rw [if_pos rfl]; have := HDM.out; omega
                    · rw [if_neg q]; exact h1, close_cut hlt HT.out hst3.out.2.1.up HRR.out⟩, fun e => by cases e⟩
                have hsum4 : sumV (upd v3 k d) + (if true then 1 else 0) ≤ sumV vv := by
                  have h1 := sumTo_upd (v := v3) (k := k) (x := d) (n := 8) hlt
                  have h2 := HDM.out
                  simp only [if_true]
                  unfold sumV at hsum3 ⊢
                  omega
                go_wp2_with fail
                go_roundg (v3 k - d)
                case measure => exact hm3
                case rel => exact ⟨true, upd v3 k d, d + 1, rfl, by rw [HW1.out], by have := HDM.out; unfold upd; rw [if_pos rfl]; omega, hsum4, HST8⟩
              · have HST4 : Hid (ClD w u v3 w7 ∧ ClI l v0 v3 ∧ (bl3 = false → d + 1 ≤ v3 k ∧ fineTo l v3 k (d + 1) ∧ ∀ j, j < k → fineTo l v3 j (v3 j))) := Lib.hid ⟨HST7.out, hst3.out.2.1, fun e => ⟨HDM.out, fineTo_next (hst3.out.2.2 e).2.1 HT.out HRR.out, (hst3.out.2.2 e).2.2⟩⟩
                go_wp2_with fail
                go_roundg (v3 k - d)
                case measure => exact hm3
                case rel => exact ⟨bl3, v3, d + 1, rfl, by rw [HW1.out], by have := HDM.out; omega, hsum3, HST4⟩
            · obtain ⟨m, hm⟩ : ∃ m, m = v3 k := ⟨_, rfl⟩
              rw [← hm] at hkv hdv
              have HST4 : Hid (ClD w u v3 wr ∧ ClI l v0 v3 ∧ (bl3 = false → ∀ j, j < k + 1 → fineTo l v3 j (v3 j))) := Lib.hid ⟨hst3.out.1, hst3.out.2.1, fun e j hj => by
                obtain ⟨h1, h2, h3⟩ := hst3.out.2.2 e
                by_cases q : j = k
                · rw [q, show v3 k = d by omega]; exact h2
                · exact h3 j (by omega)⟩
              clear hm
              go_wp2_with fail
              go_roundw
              case measure => simp [intOf]; omega
              case rel => exact ⟨k + 1, bl3, v3, by omega, by go_num, rfl, hsum3, HST4⟩
        · obtain rfl : k = 8 := by omega
          go_wp2_with fail
          go_roundg (2 * sumV v2 + (if bl then 1 else 0) + 1)
          case measure => cases bl <;> simp at hsum ⊢ <;> omega
          case rel => exact ⟨bl, v2, rfl, Nat.lt_succ_self _, hst2⟩
end Go.Proofs.YtnjmgknicffcbaaGreatDoor
