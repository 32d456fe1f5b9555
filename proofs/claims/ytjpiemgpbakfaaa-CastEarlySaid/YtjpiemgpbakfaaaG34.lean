/- Texts CutZD, joined. -/
import Derived.Test.YtjpiemgpbakfaaaG24
/- Walks: the document's Order, whole. -/
namespace Go.Proofs.Ytjpiemgpbakfaaa
open Go.RowKit Go.Joins
set_option linter.unusedSimpArgs false
set_option linter.unusedVariables false

/-- An owned row with one element stored anew. -/
theorem xo_set {w : World} {B g n c k : Nat} {R : List TR} (h : w.ownsRow B 38 12 (.slice (some ⟨g, 0, none⟩) n c) n (trs R)) (hk : k < R.length) (y : TR) :
    (putCells w g (k * 12) (trcells y)).ownsRow B 38 12 (.slice (some ⟨g, 0, none⟩) n c) n (trs (R.set k y)) ∧ Kp (some g) w (putCells w g (k * 12) (trcells y)) := by
  obtain ⟨h1, h2⟩ := own_putCells (trcells y) (k * 12) w _ h
  rw [show setFrom (trs R) (k * 12) (trcells y) = trs (R.set k y) from setFrom_rows trcells 12 trcells_len (by decide) R k hk y] at h1
  exact ⟨h1, h2⟩
theorem TOO.kpT {w w' : World} {B B' g n c : Nat} {xs : List Value} {v : Value} {ops : List TO} (hv : TOO w B' v ops) (ho : w.ownsRow B 38 12 (.slice (some ⟨g, 0, none⟩) n c) n xs) (hB : B' ≤ B) (k : Kp (some g) w w') : TOO w' B' v ops :=
  World.ownsRow.kept hv k (.inr (own_types (own_le ho hB) hv (by decide) (b := g) rfl))
/-- What Order has in memory: the logs' box, the cut's, the row. -/
structure OrR (w : World) (u : Nat → S3) (v0 : Nat → Nat) (s : Value) (R : List TR) (wr : World) : Prop where
  lb : LBox wr w.heap.size u
  vb : VBox wr (w.heap.size + 1) v0
  own : wr.ownsRow (w.heap.size + 2) 38 12 s R.length (trs R)
  ops : TOn wr (w.heap.size + 2) R
  gr : Gr w wr
theorem OrR.next {w : World} {u : Nat → S3} {v0 : Nat → Nat} {s : Value} {R : List TR} {wr w' : World} (h : OrR w u v0 s R wr) (g : Gr wr w') : OrR w u v0 s R w' :=
  ⟨h.lb.gr g, h.vb.gr g, own_gr h.own g, h.ops.mid (Mid.of_gr g), h.gr.trans g⟩
/-- The row has grown by one. -/
theorem OrR.more {w : World} {u : Nat → S3} {v0 : Nat → Nat} {A A' : Option Addr} {n c c' : Nat} {R : List TR} {wr w' : World} {y : TR} (h : OrR w u v0 (.slice A n c) R wr) (hn : n = R.length) (hy : TOO wr (w.heap.size + 2) y.2.v y.1.ops)
    (ho : w'.ownsRow (w.heap.size + 2) 38 12 (.slice A' (n + 1) c') (n + 1) (trs (R ++ [y]))) (kp : wr.grownBy w' (Value.slice A n c).ownBlock) : OrR w u v0 (.slice A' (n + 1) c') (R ++ [y]) w' := by
  subst hn
  have hb := own_below h.own kp
  refine ⟨h.lb.keep (hb _ (by omega) h.lb.lt), ⟨by rw [hb _ (by omega) h.vb.lt]; exact h.vb.box⟩, by rw [List.length_append]; exact ho, fun r hr => ?_, h.gr.grown h.own (by omega) kp⟩
  rcases List.mem_append.1 hr with hr | hr
  · exact TOO.grown (h.ops r hr) h.own (Nat.le_refl _) kp
  · simp only [List.mem_singleton] at hr
    subst hr
    exact TOO.grown hy h.own (Nat.le_refl _) kp
/-- One element stored anew. -/
theorem OrR.put {w : World} {u : Nat → S3} {v0 : Nat → Nat} {g n c k : Nat} {R : List TR} {wr : World} {y : TR} (h : OrR w u v0 (.slice (some ⟨g, 0, none⟩) n c) R wr) (hk : k < R.length) (hn : n = R.length) (hy : TOO wr (w.heap.size + 2) y.2.v y.1.ops) :
    OrR w u v0 (.slice (some ⟨g, 0, none⟩) n c) (R.set k y) (putCells wr g (k * 12) (trcells y)) ∧ Kp (some g) wr (putCells wr g (k * 12) (trcells y)) := by
  subst hn
  obtain ⟨h1, h2⟩ := xo_set h.own hk y
  have hg := (own_len h.own).2.2.1
  refine ⟨⟨⟨kp_obj h2 h.lb.box (by intro e; injection e with e; omega)⟩, ⟨kp_obj h2 h.vb.box (by intro e; injection e with e; omega)⟩, by rw [List.length_set]; exact h1, fun r hr => ?_, h.gr.trans_kp h2 (by omega)⟩, h2⟩
  rcases List.mem_or_eq_of_mem_set hr with hr | hr
  · exact (h.ops r hr).kpT h.own (Nat.le_refl _) h2
  · subst hr
    exact hy.kpT h.own (Nat.le_refl _) h2
/-- The row while an element goes down: place k is free. -/
def gap (R : List TR) (k : Nat) (y : TR) : List TR := R.take k ++ y :: R.drop k
theorem gap_len (R : List TR) (k : Nat) (y : TR) (hk : k ≤ R.length) : (gap R k y).length = R.length + 1 := by
  unfold gap
  rw [List.length_append, List.length_cons, List.length_take, List.length_drop]; omega
theorem gap_end (R : List TR) (y : TR) : gap R R.length y = R ++ [y] := by unfold gap; rw [List.take_length, List.drop_length]
theorem gap_set (R : List TR) {k : Nat} (hk : k ≤ R.length) (y z : TR) : (gap R k y).set k z = gap R k z := by
  unfold gap
  rw [List.set_append_right _ _ (by rw [List.length_take]; omega), List.length_take, Nat.min_eq_left hk, Nat.sub_self]
  rfl
theorem gap_at (R : List TR) {k : Nat} (hk : k < R.length) (y : TR) : (gap R (k + 1) y)[k]? = some R[k] := by
  unfold gap
  rw [List.getElem?_append_left (by rw [List.length_take]; omega), List.getElem?_take_of_lt (by omega), List.getElem?_eq_getElem hk]
theorem gap_down (R : List TR) {k : Nat} (hk : k < R.length) : gap R (k + 1) R[k] = gap R k R[k] := by
  unfold gap
  rw [List.take_add_one, List.getElem?_eq_getElem hk, List.drop_eq_getElem_cons hk]
  simp only [Option.toList, List.append_assoc, List.cons_append, List.nil_append]
theorem gap_text (R : List TR) (k : Nat) (y : TR) : texts (gap R k y) = (texts R).take k ++ y.1 :: (texts R).drop k := by
  unfold texts gap
  rw [List.map_append, List.map_cons, List.map_take, List.map_drop]
/-- The rounds in which an element goes down. -/
structure OrG (w : World) (u : Nat → S3) (v0 : Nat → Nat) (g n c : Nat) (R : List TR) (t : TX) (s : S3) (bt : Nat) (k : Nat) (wr : World) : Prop where
  or : ∃ y, OrR w u v0 (.slice (some ⟨g, 0, none⟩) n c) (gap R k y) wr
  bx : XFix wr bt 0 t s.v
  bg : g ≠ bt
  ow : TOO wr (w.heap.size + 2) s.v t.ops
  pl : plc t (texts R) R.length = plc t (texts R) k
theorem OrG.next {w : World} {u : Nat → S3} {v0 : Nat → Nat} {g n c : Nat} {R : List TR} {t : TX} {s : S3} {bt k : Nat} {wr w' : World} (h : OrG w u v0 g n c R t s bt k wr) (gr : Gr wr w') : OrG w u v0 g n c R t s bt k w' := by
  obtain ⟨y, hy⟩ := h.or
  exact ⟨⟨y, hy.next gr⟩, h.bx.gr gr, h.bg, own_gr h.ow gr, h.pl⟩

set_option maxRecDepth 100000 in
set_option maxHeartbeats 8000000 in
theorem rord9_any (u : Nat → S3) (l : LG) (v : Nat → Nat) (w : World) (h : LV w u l) (hf : FitC l) (hlen : ∀ i, i < 8 → (l i).length ≤ 1024) :
    Calls Try.prog 7 #[.agg (lcells u), .agg (vcells v)] w fun e w' => ∃ s, e = .returned s ∧ XN w' w.heap.size s (ordR l v) ∧ Gr w w' := by
  obtain ⟨W, hW, hg, hsz, hL, hV⟩ := boxesLV u v w
  have HL := Lib.hid hL
  have HV := Lib.hid hV
  have HG := Lib.hid hg
  have HX := Lib.hid h
  have HF := Lib.hid hf
  have HSZ := Lib.hid (fun w1 (g : Gr W w1) => rsize_any u l w1 ((h.gr hg).gr g))
  have HMT := Lib.hid (fun w1 => rmeet_any v (sizeV l) w1)
  obtain ⟨v0, hv0⟩ : ∃ x, x = mt v (sizeV l) := ⟨_, rfl⟩
  rw [← hv0] at HMT
  have HV0 := Lib.hid hv0
  have HLE : Hid (leqB v0 (sizeV l) = true) := Lib.hid (by rw [hv0]; exact mt_le v l)
  have HB : Hid (∀ i, i ≤ 8 → sumTo v0 i ≤ i * 1024) := Lib.hid (by
    intro i hi
    induction i with
    | zero => exact Nat.le_refl _
    | succ i ih =>
      have h1 := ih (by omega)
      have h2 : v0 i ≤ (l i).length := lq HLE.out (by omega)
      have h3 := hlen i (by omega)
      show sumTo v0 i + v0 i ≤ _
      omega)
  have HLN := Lib.hid hlen
  have HSW := Lib.hid hsz
  clear hL hV hg hsz h hf hlen hv0
  go_enter Try.func7, Try.ntmps7
  go_upto_region 2 with (fail)
  rw [← hW]
  clear hW
  refine qTail 4 (fun w' => LC w' w.heap.size u ∧ VC w' (w.heap.size + 1) v ∧ Gr W w') (by kernel_rfl) (by kernel_rfl) ⟨HL.out.lc.gr (Gr.refl _).drew, HV.out.vc.gr (Gr.refl _).drew, (Gr.refl _).drew⟩ ?_
  simp only [List.take_succ_cons, List.take_zero, List.drop_succ_cons, List.drop_zero]
  iterate 2
    refine qTake (by kernel_rfl) ?_
    apply Exists.intro
    refine ⟨fun wq hq => ?_, ?_⟩
    · go_light
      obtain ⟨⟨l0, l1, l2, l3, l4, l5, l6, l7⟩, ⟨h0, h1, h2, h3, h4, h5, h6, h7⟩, hg⟩ := hq
      go_simp
      try with_reducible rfl
      done
    try simp only [Act.put, List.setIfInBounds_toArray, List.set_cons_zero, List.set_cons_succ]
  refine qCall (by kernel_rfl) ?_
  apply Exists.intro
  refine ⟨?_, ?_⟩
  · apply Exists.intro
    apply Exists.intro
    refine ⟨fun wq => ?_, fun wq hq => ?_⟩
    · go_light
      go_simp
      exact ⟨rfl, rfl⟩
    · exact (HSZ.out wq hq.2.2).mono fun e w'' ⟨he, hg⟩ => ⟨he, hq.1.gr hg, hq.2.1.gr hg, hq.2.2.trans hg⟩
  try simp only [Act.put, List.setIfInBounds_toArray, List.set_cons_zero, List.set_cons_succ]
  refine qCall (by kernel_rfl) ?_
  apply Exists.intro
  refine ⟨?_, ?_⟩
  · apply Exists.intro
    apply Exists.intro
    refine ⟨fun wq => ?_, fun wq hq => ?_⟩
    · go_light
      go_simp
      exact ⟨rfl, rfl⟩
    · exact (HMT.out wq).mono fun e w'' ⟨he, hg⟩ => ⟨he, hq.1.gr hg, hq.2.1.gr hg, hq.2.2.trans hg⟩
  try simp only [Act.put, List.setIfInBounds_toArray, List.set_cons_zero, List.set_cons_succ]
  refine qNil ?_
  intro w3 hC
  have HG3 := Lib.hid hC.2.2
  obtain ⟨y0, y1, y2, y3, y4, y5, y6, y7⟩ := hC.2.1
  obtain ⟨f0, f1, f2, f3, f4, f5, f6, f7⟩ := (HV.out.gr HG3.out).fz
  clear hC
  go_upto_region 3 with (fail)
  clear y0 y1 y2 y3 y4 y5 y6 y7 f0 f1 f2 f3 f4 f5 f6 f7
  change Code.wp Try.prog _ _ _ (putCells w3 (w.heap.size + 1) 0 (vcells v0).toList)
  obtain ⟨w4, hw4, hc4⟩ : ∃ x, x = putCells w3 (w.heap.size + 1) 0 (vcells v0).toList ∧ OrR w u v0 (.slice none 0 0) [] x := by
    obtain ⟨hk, hb⟩ := putV8 (HV.out.gr HG3.out) v0
    exact ⟨_, rfl, ⟨⟨by rw [hk _ (by omega)]; exact (HL.out.gr HG3.out).box⟩, hb, World.ownsRow_nil _ _ _ _, fun _ h => (by cases h), Gr.putCells (Nat.le_succ _) _ _ (HG.out.trans HG3.out)⟩⟩
  rw [← hw4]
  have HC4 := Lib.hid hc4
  have HB4 : Hid (w.heap.size + 2 ≤ w4.heap.size) := Lib.hid (by have := hc4.vb.lt; omega)
  clear hw4 hc4
  go_wp2_with fail
  go_loopw [5, 6] (fun s i wr => ∃ k : Nat, k ≤ 8 ∧ i = .int .i64 k ∧ Hid (∃ R, OrR w u v0 s R wr ∧ texts R = ordTo l v0 k)) (fun _ i _ => 8 - (intOf i).toNat)
  case atStart => exact ⟨0, by decide, rfl, Lib.hid ⟨[], HC4.out, rfl⟩⟩
  case round =>
    obtain ⟨k, hk, rfl, hst⟩ := hrel
    rename World => wo
    by_cases hlt : k < 8
    · have hk0 : (0 : Int) ≤ (k : Int) := Int.natCast_nonneg _
      have hk8 : (k : Int) < 8 := by omega
      obtain ⟨m, hm⟩ : ∃ m, m = v0 k := ⟨_, rfl⟩
      have hml : m ≤ (l k).length := by rw [hm]; exact lq HLE.out hlt
      have hm1 : m ≤ 1024 := Nat.le_trans hml (HLN.out k hlt)
      have HM := Lib.hid hm
      have HST := hst
      clear hm hst
      go_wp2_with fail
      go_loopw [5, 7] (fun s i wr => ∃ d : Nat, d ≤ m ∧ i = .int .u64 d ∧ Hid (∃ R, OrR w u v0 s R wr ∧ texts R = ordIn l k (ordTo l v0 k) d)) (fun _ i _ => m - (intOf i).toNat)
      case atStart => exact ⟨0, Nat.zero_le _, rfl, HST⟩
      case round =>
        clear HST
        obtain ⟨d, hd, rfl, hst⟩ := hrel
        rename World => wr
        obtain ⟨R, hor, htx⟩ := hst.out
        have hkv := hor.vb.at hlt
        rw [← HM.out] at hkv
        have hd0 : (0 : Int) ≤ (d : Int) := Int.natCast_nonneg _
        by_cases hdm : d < m
        · have hdl : d < (l k).length := by omega
          have hdm1 : (d : Int) < (m : Int) := by omega
          obtain ⟨b, off, ha, vx, hvx, hx⟩ := (HX.out.gr hor.gr).cell hlt hdl
          have hlk := hor.lb.at hlt
          obtain ⟨n, hn⟩ : ∃ n, n = (u k).n := ⟨_, rfl⟩
          obtain ⟨c, hc⟩ : ∃ c, c = (u k).c := ⟨_, rfl⟩
          rw [ha, ← hn, ← hc] at hlk
          have hdn : (d : Int) < (n : Int) := by rw [hn, HX.out.len hlt]; omega
          obtain ⟨t, ht⟩ : ∃ t, t = (l k)[d] := ⟨_, rfl⟩
          rw [← ht] at hvx hx
          have HT := Lib.hid (show (l k)[d]? = some t by rw [ht]; exact List.getElem?_eq_getElem hdl)
          have hfit := HF.out.tx k t hlt (by rw [ht]; exact List.getElem_mem hdl)
          have HCP := Lib.hid (rcopy8_own t vx wr hvx hfit.1)
          obtain ⟨Ax, cx, hvf⟩ := tov_form hvx
          subst hvf
          obtain ⟨nx, hnx⟩ : ∃ n, n = t.ops.length := ⟨_, rfl⟩
          rw [← hnx] at hx HCP
          obtain ⟨x0, x1, x2, x3, x4, x5, x6, x7, x8, x9, x10, x11⟩ := hx
          have hRl : R.length = sumTo v0 k + d := by
            rw [← texts_len, htx, ordIn_len l k _ _ (by omega), ordTo_len l v0 k fun j hj => lq HLE.out (by omega)]
          have hlen2 : R.length ≤ 8192 := by
            have := HB.out k (by omega)
            omega
          obtain ⟨A5, c5, hs5, -, -⟩ := own_form hor.own
          subst hs5
          obtain ⟨nr, hnr⟩ : ∃ n, n = R.length := ⟨_, rfl⟩
          rw [← hnr] at hor hlen2
          have HOR := Lib.hid hor
          have HTX := Lib.hid htx
          have HNR := Lib.hid hnr
          have HNX := Lib.hid hnx
          have HBW : Hid (w.heap.size + 2 ≤ wr.heap.size) := Lib.hid (by have := hor.vb.lt; omega)
          clear hst hor htx ha hvx hn hc ht hfit hRl hnr hnx
          rw [← HNR.out]
          go_upto_region 9 with (fail)
          go_wp2_with fail
          refine HCP.out.mono ?_
          rintro e w6 ⟨u6, rfl, ho6, g6⟩
          obtain ⟨A6, c6, rfl, -, -⟩ := ho6.form
          rw [← HNX.out] at ho6 ⊢
          have HO6 := Lib.hid (own_le ho6 HBW.out)
          have HG6 := Lib.hid g6
          clear ho6 g6 x0 x1 x2 x3 x4 x5 x6 x7 x8 x9 x10 x11 hkv hlk
          have hz : (w6.alloc (.cells zeroX 38)).heap[w6.heap.size]? = some (.cells zeroX 38 (0, 0)) := heap_alloc _ _ _
          have z0 : (w6.alloc (.cells zeroX 38)).cell? ⟨w6.heap.size, 0, none⟩ = some (.int .i64 0) := by rw [cell_of_block hz]; rfl
          have k0 := unfrozen_of_block hz 0
          have z1 : (w6.alloc (.cells zeroX 38)).cell? ⟨w6.heap.size, 1, none⟩ = some (.int .u64 0) := by rw [cell_of_block hz]; rfl
          have k1 := unfrozen_of_block hz 1
          have z2 : (w6.alloc (.cells zeroX 38)).cell? ⟨w6.heap.size, 2, none⟩ = some (.int .u64 0) := by rw [cell_of_block hz]; rfl
          have k2 := unfrozen_of_block hz 2
          have z3 : (w6.alloc (.cells zeroX 38)).cell? ⟨w6.heap.size, 3, none⟩ = some (.int .u64 0) := by rw [cell_of_block hz]; rfl
          have k3 := unfrozen_of_block hz 3
          have z4 : (w6.alloc (.cells zeroX 38)).cell? ⟨w6.heap.size, 4, none⟩ = some (.int .u64 0) := by rw [cell_of_block hz]; rfl
          have k4 := unfrozen_of_block hz 4
          have z5 : (w6.alloc (.cells zeroX 38)).cell? ⟨w6.heap.size, 5, none⟩ = some (.int .u64 0) := by rw [cell_of_block hz]; rfl
          have k5 := unfrozen_of_block hz 5
          have z6 : (w6.alloc (.cells zeroX 38)).cell? ⟨w6.heap.size, 6, none⟩ = some (.int .u64 0) := by rw [cell_of_block hz]; rfl
          have k6 := unfrozen_of_block hz 6
          have z7 : (w6.alloc (.cells zeroX 38)).cell? ⟨w6.heap.size, 7, none⟩ = some (.int .u64 0) := by rw [cell_of_block hz]; rfl
          have k7 := unfrozen_of_block hz 7
          have z8 : (w6.alloc (.cells zeroX 38)).cell? ⟨w6.heap.size, 8, none⟩ = some (.int .u64 0) := by rw [cell_of_block hz]; rfl
          have k8 := unfrozen_of_block hz 8
          have z9 : (w6.alloc (.cells zeroX 38)).cell? ⟨w6.heap.size, 9, none⟩ = some (.int .u64 0) := by rw [cell_of_block hz]; rfl
          have k9 := unfrozen_of_block hz 9
          have z10 : (w6.alloc (.cells zeroX 38)).cell? ⟨w6.heap.size, 10, none⟩ = some (.int .u64 0) := by rw [cell_of_block hz]; rfl
          have k10 := unfrozen_of_block hz 10
          have z11 : (w6.alloc (.cells zeroX 38)).cell? ⟨w6.heap.size, 11, none⟩ = some (.slice none 0 0) := by rw [cell_of_block hz]; rfl
          have k11 := unfrozen_of_block hz 11
          go_upto_region 10 with (fail)
          clear z0 k0 z1 k1 z2 k2 z3 k3 z4 k4 z5 k5 z6 k6 z7 k7 z8 k8 z9 k9 z10 k10 z11 k11 hz
          obtain ⟨w7, hw7, hg7, hx7⟩ := xbox w6 t (.slice A6 nx c6)
          change Code.wp Try.prog _ _ _ (w6.alloc (.cells (tcs t (.slice A6 nx c6)) 38))
          rw [← hw7]
          have hB7 : w7.heap.size = w6.heap.size + 1 := by rw [hw7]; simp
          obtain ⟨bt, hbt⟩ : ∃ b, b = w6.heap.size := ⟨_, rfl⟩
          have HBT := Lib.hid hbt
          rw [← hbt] at hx7 hB7 ⊢
          have HX7 := Lib.hid hx7
          have HOR7 := Lib.hid ((HOR.out.next HG6.out).next hg7)
          have HO7 : Hid (TOO w7 (w.heap.size + 2) (S3.v ⟨A6, nx, c6⟩) t.ops) := Lib.hid (own_gr HO6.out hg7)
          have HB7 := Lib.hid hB7
          have hln : (nr + 1) * 112 ≤ 140737488355328 := by omega
          obtain ⟨W8, hW8, hg8, hx8⟩ := xbox w7 t (.slice A6 nx c6)
          have HX8 := Lib.hid hx8
          have HOR8 := Lib.hid (HOR7.out.next hg8)
          have HG8 := Lib.hid hg8
          have HB8 : Hid (w.heap.size + 2 ≤ W8.heap.size) := Lib.hid (by have := HBW.out; have := HG6.out.size; have := hg7.size; have := hg8.size; omega)
          obtain ⟨x0, x1, x2, x3, x4, x5, x6, x7, x8, x9, x10, x11⟩ := hx7
          clear hw7 hg7 hx8 hg8 hbt hB7
          go_upto_region 11 with (at_builtin; rw [← hW8]; refine wpList_push_tx rfl (.tmp 32) (.tmp 34) rfl (w.heap.size + 2) (.slice A5 nr c5) nr w7.heap.size R (t, ⟨A6, nx, c6⟩) rfl rfl (by have := HOR8.out.own; rw [← HNR.out] at this; exact this) HX8.out hln HB8.out ?_; intro A9 c9 w9 hown9 kp9 hbk9; have HW9 := Lib.hid hown9; have HK9 := Lib.hid kp9; have HBK := Lib.hid hbk9; clear hown9 kp9 hbk9)
          have hor9 := HOR8.out.more HNR.out (y := (t, ⟨A6, nx, c6⟩)) (own_gr HO7.out HG8.out) HW9.out HK9.out
          obtain ⟨g, hA9⟩ := own_blk HW9.out (Nat.succ_pos _)
          subst hA9
          obtain ⟨nn, hnn⟩ : ∃ n, n = nr + 1 := ⟨_, rfl⟩
          rw [← hnn] at hor9 ⊢
          have HA5 : Hid (∀ x, (Value.slice A5 nr c5).ownBlock = some x → x < bt) := Lib.hid fun x hx => by
            have h1 := (HOR.out.own.lt x hx).2
            have h2 := HG6.out.size
            have h3 := HB7.out
            have h4 := HBT.out
            omega
          have hgbt : g ≠ bt := by
            rcases HBK.out with h | h
            · have := HA5.out g h.symm
              omega
            · have h2 : g = w7.heap.size + 1 - 1 + (W8.heap.size - w7.heap.size) := by
                have h3 : some g = some W8.heap.size := h
                injection h3 with h3
                have := HG8.out.size
                omega
              have := HG8.out.size
              have := HB7.out
              omega
          have hx9 : XFix w9 bt 0 t (.slice A6 nx c6) := (HX7.out.gr HG8.out).kp (r := (Value.slice A5 nr c5).ownBlock) HK9.out (fun e => by have := HA5.out bt e; omega)
          have HS9 : Hid (OrG w u v0 g nn c9 R t ⟨A6, nx, c6⟩ bt nr w9) := Lib.hid ⟨⟨(t, ⟨A6, nx, c6⟩), by rw [HNR.out, gap_end]; exact hor9⟩, hx9, hgbt, TOO.grown (own_gr HO7.out HG8.out) (by have := HOR8.out.own; rw [← HNR.out] at this; exact this) (Nat.le_refl _) HK9.out, by rw [HNR.out]⟩
          have HNN := Lib.hid hnn
          have hsub : wrap64 ((nn : Int) - 1) = (nr : Int) := by unfold wrap64; omega
          have HSUB := Lib.hid hsub
          clear hW8 hor9 hnn hgbt hx9 x0 x1 x2 x3 x4 x5 x6 x7 x8 x9 x10 x11 HW9 HK9 HBK HOR8 HOR7 HX7 HX8 HO7 HB8 HG8 HB7 HA5 HO6 HG6 HCP
          go_wp2_with fail
          clear hsub
          go_loopw [9] (fun i wr => ∃ a : Nat, a ≤ nr ∧ i = .int .i64 a ∧ Hid (OrG w u v0 g nn c9 R t ⟨A6, nx, c6⟩ bt a wr)) (fun i _ => (intOf i).toNat)
          case atStart => exact ⟨nr, Nat.le_refl _, by rw [HSUB.out], HS9⟩
          case round =>
            clear HS9
            obtain ⟨a, ha, rfl, hst0⟩ := hrel
            rename World => wx
            have hst := hst0.out
            clear hst0
            rcases Nat.eq_zero_or_pos a with ha0 | hpos
            · subst ha0
              have HPL : Hid (plc t (texts R) R.length = 0) := Lib.hid (by rw [hst.pl]; rfl)
              go_upto_region 12 with (fail)
              refine qRegion (fun w' => Gr wx w') (by kernel_rfl) (by kernel_rfl) (Gr.refl _).drew ?_
              iterate 3
                refine qTake (by kernel_rfl) ?_
                apply Exists.intro
                refine ⟨fun wq hq => ?_, ?_⟩
                · go_light
                  obtain hg := hq
                  go_simp
                  try with_reducible rfl
                  done
                try simp only [Act.put, List.setIfInBounds_toArray, List.set_cons_zero, List.set_cons_succ]
              iterate 7
                refine qSkip (by kernel_rfl) ?_
                try simp only [Act.put, List.setIfInBounds_toArray, List.set_cons_zero, List.set_cons_succ]
              iterate 1
                refine qTake (by kernel_rfl) ?_
                apply Exists.intro
                refine ⟨fun wq hq => ?_, ?_⟩
                · go_light
                  obtain hg := hq
                  go_simp
                  try with_reducible rfl
                  done
                try simp only [Act.put, List.setIfInBounds_toArray, List.set_cons_zero, List.set_cons_succ]
              refine qNil ?_
              rintro w14 hgx
              have hst14 := hst.next hgx
              obtain ⟨yy, hor14⟩ := hst14.or
              have hgl := gap_len R (0) yy (by rw [← HNR.out]; exact ha)
              have hai : 0 < (gap R (0) yy).length := by omega
              have how := hor14.own
              rw [show (gap R (0) yy).length = nn by rw [hgl, HNN.out, HNR.out]] at how
              have hfx := xfix_at (w := w14) (b := g) (off := 0) hai fun i u hu => by rw [Nat.zero_add]; exact own_cell how hu
              rw [Nat.zero_add] at hfx
              obtain ⟨q0, q1, q2, q3, q4, q5, q6, q7, q8, q9, q10, q11⟩ := hfx
              have hfree := fun j => own_free how j
              have fz0 := hfree (0 * 12)
              have fz1 := hfree (0 * 12 + 1)
              have fz2 := hfree (0 * 12 + 2)
              have fz3 := hfree (0 * 12 + 3)
              have fz4 := hfree (0 * 12 + 4)
              have fz5 := hfree (0 * 12 + 5)
              have fz6 := hfree (0 * 12 + 6)
              have fz7 := hfree (0 * 12 + 7)
              have fz8 := hfree (0 * 12 + 8)
              have fz9 := hfree (0 * 12 + 9)
              have fz10 := hfree (0 * 12 + 10)
              have fz11 := hfree (0 * 12 + 11)
              obtain ⟨hor15, hkp15⟩ := hor14.put hai (by rw [hgl, HNN.out, HNR.out]) (y := (t, ⟨A6, nx, c6⟩)) hst14.ow
              rw [gap_set R (by rw [← HNR.out]; exact ha)] at hor15
              have HOR15 : Hid (∃ R, OrR w u v0 (.slice (some ⟨g, 0, none⟩) nn c9) R (putCells w14 g (0 * 12) (trcells (t, ⟨A6, nx, c6⟩))) ∧ texts R = ordIn l k (ordTo l v0 k) (d + 1)) := Lib.hid ⟨_, hor15, by
                rw [ordIn_at HT.out, ← HTX.out, gap_text]
                unfold insT
                rw [texts_len, HPL.out]⟩
              have hgi : (0 : Int) < (nn : Int) := by have := HNN.out; omega
              have hgi0 : (0 : Int) ≤ (0 : Int) := by omega
              have hgn : 0 < nn := by have := HNN.out; omega
              obtain ⟨x0, x1, x2, x3, x4, x5, x6, x7, x8, x9, x10, x11⟩ := hst14.bx
              clear hfree hgl how hor14 hst14 hor15 hkp15 hgx
              go_upto_region 8 with (fail)
              change Code.wp Try.prog _ _ _ (putCells w14 g (0 * 12) (trcells (t, ⟨A6, nx, c6⟩)))
              obtain ⟨w15, hw15⟩ : ∃ x, x = putCells w14 g (0 * 12) (trcells (t, ⟨A6, nx, c6⟩)) := ⟨_, rfl⟩
              rw [← hw15] at HOR15 ⊢
              clear hw15 x0 x1 x2 x3 x4 x5 x6 x7 x8 x9 x10 x11 q0 q1 q2 q3 q4 q5 q6 q7 q8 q9 q10 q11 fz0 fz1 fz2 fz3 fz4 fz5 fz6 fz7 fz8 fz9 fz10 fz11
              go_wp2_with fail
              go_roundw
              case measure => simp [intOf]; omega
              case rel => exact ⟨d + 1, by omega, by go_num, HOR15⟩
            · obtain ⟨a1, ha1⟩ : ∃ b, a = b + 1 := ⟨a - 1, by omega⟩
              have hal : a1 < R.length := by have := HNR.out; omega
              obtain ⟨yy, hory⟩ := hst.or
              have hgl := gap_len R a yy (by rw [← HNR.out]; exact ha)
              have hget : (gap R a yy)[a1]? = some R[a1] := by rw [ha1]; exact gap_at R hal yy
              obtain ⟨⟨x, sx⟩, hxx⟩ : ∃ z, z = R[a1] := ⟨_, rfl⟩
              rw [← hxx] at hget
              have hi1 : a1 < (gap R a yy).length := by omega
              have how := hory.own
              rw [show (gap R a yy).length = nn by rw [hgl, HNN.out, HNR.out]] at how
              have hfx := xfix_at (w := wx) (b := g) (off := 0) hi1 fun i u hu => by rw [Nat.zero_add]; exact own_cell how hu
              rw [Nat.zero_add] at hfx
              have he1 : (gap R a yy)[a1] = (x, sx) := by
                rw [List.getElem?_eq_getElem hi1] at hget
                exact Option.some.inj hget
              rw [he1] at hfx
              have HFX : Hid (XFix wx g (a1 * 12) x (.slice sx.a sx.n sx.c)) := Lib.hid hfx
              have HBX : Hid (XFix wx bt 0 t (.slice A6 nx c6)) := Lib.hid hst.bx
              have HXT : Hid ((texts R)[a1]? = some x) := Lib.hid (by unfold texts; rw [List.getElem?_map, List.getElem?_eq_getElem hal, ← hxx]; rfl)
              have HSX : Hid (R[a1] = (x, sx)) := Lib.hid hxx.symm
              obtain ⟨sa, hsa⟩ : ∃ z, z = sx.a := ⟨_, rfl⟩
              obtain ⟨sn, hsn⟩ : ∃ z, z = sx.n := ⟨_, rfl⟩
              obtain ⟨sc, hsc⟩ : ∃ z, z = sx.c := ⟨_, rfl⟩
              rw [← hsa, ← hsn, ← hsc] at HFX
              have HSV : Hid (trcells (x, sx) = (tcs x (.slice sa sn sc)).toList) := Lib.hid (by rw [hsa, hsn, hsc]; rfl)
              have HAH := Lib.hid (fun w1 => ahead_any t x A6 sa nx c6 sn sc w1)
              obtain ⟨r, hr⟩ : ∃ r, r = aheadB t x := ⟨_, rfl⟩
              rw [← hr] at HAH
              have HR := Lib.hid hr
              have HA1 := Lib.hid ha1
              have hap : (0 : Int) < (a : Int) := by omega
              have had : decide (0 < a) = true := decide_eq_true hpos
              have hsub : wrap64 ((a : Int) - 1) = (a1 : Int) := by have := HNR.out; unfold wrap64; omega
              have hsub2 : IntKind.i64.wrap ((a : Int) - 1) = (a1 : Int) := by have := HNR.out; simp [IntKind.wrap, IntKind.bits, IntKind.signed]; omega
              have hi0 : (0 : Int) ≤ (a1 : Int) := Int.natCast_nonneg _
              have hin : (a1 : Int) < (nn : Int) := by have := HNN.out; omega
              clear how hory hget hfx he1 hxx hsa hsn hsc hr hi1 hgl ha1
              go_upto_region 12 with (fail)
              refine qRegion (fun w' => XFix w' bt 0 t (.slice A6 nx c6) ∧ XFix w' g (a1 * 12) x (.slice sa sn sc) ∧ Gr wx w') (by kernel_rfl) (by kernel_rfl) ⟨HBX.out.gr (Gr.refl _).drew, HFX.out.gr (Gr.refl _).drew, (Gr.refl _).drew⟩ ?_
              iterate 9
                refine qTake (by kernel_rfl) ?_
                apply Exists.intro
                refine ⟨fun wq hq => ?_, ?_⟩
                · go_light
                  obtain ⟨⟨e0, e1, e2, e3, e4, e5, e6, e7, e8, e9, e10, e11⟩, ⟨p0, p1, p2, p3, p4, p5, p6, p7, p8, p9, p10, p11⟩, -⟩ := hq
                  go_simp
                  try with_reducible rfl
                  done
                try simp only [Act.put, List.setIfInBounds_toArray, List.set_cons_zero, List.set_cons_succ]
              refine qCall (by kernel_rfl) ?_
              apply Exists.intro
              refine ⟨?_, ?_⟩
              · apply Exists.intro
                apply Exists.intro
                refine ⟨fun wq => ?_, fun wq hq => ?_⟩
                · go_light
                  go_simp
                  exact ⟨rfl, rfl⟩
                · exact (HAH.out wq).mono fun e w'' ⟨he, hg⟩ => ⟨he, hq.1.gr hg, hq.2.1.gr hg, hq.2.2.trans hg⟩
              try simp only [Act.put, List.setIfInBounds_toArray, List.set_cons_zero, List.set_cons_succ]
              iterate 1
                refine qTake (by kernel_rfl) ?_
                apply Exists.intro
                refine ⟨fun wq hq => ?_, ?_⟩
                · go_light
                  obtain ⟨⟨e0, e1, e2, e3, e4, e5, e6, e7, e8, e9, e10, e11⟩, ⟨p0, p1, p2, p3, p4, p5, p6, p7, p8, p9, p10, p11⟩, -⟩ := hq
                  go_simp
                  try with_reducible rfl
                  done
                try simp only [Act.put, List.setIfInBounds_toArray, List.set_cons_zero, List.set_cons_succ]
              refine qNil ?_
              rcases r with _ | _
              · have HPL : Hid (plc t (texts R) R.length = a) := Lib.hid (by rw [hst.pl, HA1.out]; exact plc_no HXT.out HR.out.symm)
                rintro w14 ⟨-, -, hgx⟩
                have hst14 := hst.next hgx
                obtain ⟨yy, hor14⟩ := hst14.or
                have hgl := gap_len R (a) yy (by rw [← HNR.out]; exact ha)
                have hai : a < (gap R (a) yy).length := by have := HNR.out; omega
                have how := hor14.own
                rw [show (gap R (a) yy).length = nn by rw [hgl, HNN.out, HNR.out]] at how
                have hfx := xfix_at (w := w14) (b := g) (off := 0) hai fun i u hu => by rw [Nat.zero_add]; exact own_cell how hu
                rw [Nat.zero_add] at hfx
                obtain ⟨q0, q1, q2, q3, q4, q5, q6, q7, q8, q9, q10, q11⟩ := hfx
                have hfree := fun j => own_free how j
                have fz0 := hfree (a * 12)
                have fz1 := hfree (a * 12 + 1)
                have fz2 := hfree (a * 12 + 2)
                have fz3 := hfree (a * 12 + 3)
                have fz4 := hfree (a * 12 + 4)
                have fz5 := hfree (a * 12 + 5)
                have fz6 := hfree (a * 12 + 6)
                have fz7 := hfree (a * 12 + 7)
                have fz8 := hfree (a * 12 + 8)
                have fz9 := hfree (a * 12 + 9)
                have fz10 := hfree (a * 12 + 10)
                have fz11 := hfree (a * 12 + 11)
                obtain ⟨hor15, hkp15⟩ := hor14.put hai (by rw [hgl, HNN.out, HNR.out]) (y := (t, ⟨A6, nx, c6⟩)) hst14.ow
                rw [gap_set R (by rw [← HNR.out]; exact ha)] at hor15
                have HOR15 : Hid (∃ R, OrR w u v0 (.slice (some ⟨g, 0, none⟩) nn c9) R (putCells w14 g (a * 12) (trcells (t, ⟨A6, nx, c6⟩))) ∧ texts R = ordIn l k (ordTo l v0 k) (d + 1)) := Lib.hid ⟨_, hor15, by
                  rw [ordIn_at HT.out, ← HTX.out, gap_text]
                  unfold insT
                  rw [texts_len, HPL.out]⟩
                have hgi : (a : Int) < (nn : Int) := by have := HNN.out; omega
                have hgi0 : (0 : Int) ≤ (a : Int) := by omega
                have hgn : 0 < nn := by have := HNN.out; omega
                obtain ⟨x0, x1, x2, x3, x4, x5, x6, x7, x8, x9, x10, x11⟩ := hst14.bx
                clear hfree hgl how hor14 hst14 hor15 hkp15 hgx
                go_upto_region 8 with (fail)
                change Code.wp Try.prog _ _ _ (putCells w14 g (a * 12) (trcells (t, ⟨A6, nx, c6⟩)))
                obtain ⟨w15, hw15⟩ : ∃ x, x = putCells w14 g (a * 12) (trcells (t, ⟨A6, nx, c6⟩)) := ⟨_, rfl⟩
                rw [← hw15] at HOR15 ⊢
                clear hw15 x0 x1 x2 x3 x4 x5 x6 x7 x8 x9 x10 x11 q0 q1 q2 q3 q4 q5 q6 q7 q8 q9 q10 q11 fz0 fz1 fz2 fz3 fz4 fz5 fz6 fz7 fz8 fz9 fz10 fz11
                go_wp2_with fail
                go_roundw
                case measure => simp [intOf]; omega
                case rel => exact ⟨d + 1, by omega, by go_num, HOR15⟩
              · rintro w14 ⟨hbx14, hfx14, hgx⟩
                have hst14 := hst.next hgx
                obtain ⟨y2, hor14⟩ := hst14.or
                have hgl := gap_len R a y2 (by rw [← HNR.out]; exact ha)
                have hai : a < (gap R a y2).length := by have := HNR.out; omega
                have how := hor14.own
                rw [show (gap R a y2).length = nn by rw [hgl, HNN.out, HNR.out]] at how
                have hfx := xfix_at (w := w14) (b := g) (off := 0) hai fun i u hu => by rw [Nat.zero_add]; exact own_cell how hu
                rw [Nat.zero_add] at hfx
                obtain ⟨q0, q1, q2, q3, q4, q5, q6, q7, q8, q9, q10, q11⟩ := hfx
                have hfree := fun j => own_free how j
                have fz0 := hfree (a * 12)
                have fz1 := hfree (a * 12 + 1)
                have fz2 := hfree (a * 12 + 2)
                have fz3 := hfree (a * 12 + 3)
                have fz4 := hfree (a * 12 + 4)
                have fz5 := hfree (a * 12 + 5)
                have fz6 := hfree (a * 12 + 6)
                have fz7 := hfree (a * 12 + 7)
                have fz8 := hfree (a * 12 + 8)
                have fz9 := hfree (a * 12 + 9)
                have fz10 := hfree (a * 12 + 10)
                have fz11 := hfree (a * 12 + 11)
                have hoa : TOO w14 (w.heap.size + 2) (x, sx).2.v (x, sx).1.ops := by
                  refine hor14.ops (x, sx) ?_
                  have h1 : (gap R a y2)[a1]? = some R[a1] := by rw [HA1.out]; exact gap_at R hal y2
                  rw [HSX.out] at h1
                  exact List.mem_of_getElem? h1
                obtain ⟨hor15, hkp15⟩ := hor14.put hai (by rw [hgl, HNN.out, HNR.out]) (y := (x, sx)) hoa
                rw [gap_set R (by rw [← HNR.out]; exact ha)] at hor15
                have HS15 : Hid (OrG w u v0 g nn c9 R t ⟨A6, nx, c6⟩ bt a1 (putCells w14 g (a * 12) (trcells (x, sx)))) := Lib.hid ⟨⟨R[a1], by
                    rw [← gap_down R hal, ← HA1.out, HSX.out]; exact hor15⟩, hst14.bx.kp hkp15 (fun e => hst.bg (Option.some.inj e)), hst.bg, hst14.ow.kpT how (Nat.le_refl _) hkp15, by
                    rw [hst.pl, HA1.out]; exact plc_yes HXT.out HR.out.symm⟩
                rw [HSV.out] at HS15
                have han : (a : Int) < (nn : Int) := by have := HNN.out; omega
                have ha00 : (0 : Int) ≤ (a : Int) := by omega
                obtain ⟨p0, p1, p2, p3, p4, p5, p6, p7, p8, p9, p10, p11⟩ := hfx14
                have HOWN := Lib.hid how
                clear hfree hgl how hor14 hst14 hor15 hkp15 hgx hoa hbx14
                go_upto_region 14 with (fail)
                change Code.wp Try.prog _ _ _ (putCells w14 g (a * 12) (tcs x (.slice sa sn sc)).toList)
                obtain ⟨w15, hw15⟩ : ∃ z, z = putCells w14 g (a * 12) (tcs x (.slice sa sn sc)).toList := ⟨_, rfl⟩
                rw [← hw15] at HS15 ⊢
                clear hw15 p0 p1 p2 p3 p4 p5 p6 p7 p8 p9 p10 p11 q0 q1 q2 q3 q4 q5 q6 q7 q8 q9 q10 q11 fz0 fz1 fz2 fz3 fz4 fz5 fz6 fz7 fz8 fz9 fz10 fz11
                go_wp2_with fail
                go_roundw
                case measure => simp [intOf]; have := HA1.out; omega
                case rel => exact ⟨a1, by have := HA1.out; omega, by first | rfl | go_num, HS15⟩
        · obtain rfl : d = m := by omega
          have HS : Hid (∃ R, OrR w u v0 u5 R wr ∧ texts R = ordTo l v0 (k + 1)) := Lib.hid ⟨R, hor, by rw [htx, HM.out]; rfl⟩
          clear hst hor htx
          go_wp2_with fail
          go_roundw
          case measure => simp [intOf]; omega
          case rel => exact ⟨k + 1, by omega, by go_num, HS⟩
    · obtain rfl : k = 8 := by omega
      obtain ⟨R, hor, htx⟩ := hst.out
      have HE : Hid (XN wo w.heap.size u5 (ordR l v) ∧ Gr w wo) := Lib.hid ⟨⟨R, by rw [htx, HV0.out]; rfl, own_le hor.own (by omega), fun r hr => own_le (hor.ops r hr) (by omega)⟩, hor.gr⟩
      clear hst hor htx
      go_wp2_with fail
      go_ret
      exact ⟨_, rfl, HE.out⟩
end Go.Proofs.Ytjpiemgpbakfaaa
