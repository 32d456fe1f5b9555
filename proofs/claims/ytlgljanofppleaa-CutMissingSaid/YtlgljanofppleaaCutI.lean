/- Walks: the program's needsOf. -/
import Derived.Test.YtlgljanofppleaaCutH
import Derived.Test.YtlgljanofppleaaCutF
namespace Go.Proofs.Ytlgljanofppleaa
open Go.RowKit Go.Joins

/-- The eight cells of a box of rows of vectors. -/
structure NBox (w : World) (b : Nat) (u : Nat → S3) : Prop where
  box : w.heap[b]? = some (.cells (lcells u) 59 (0, 0))
theorem NBox.gr {w w' : World} {b : Nat} {u : Nat → S3} (h : NBox w b u) (g : Gr w w') : NBox w' b u := ⟨gr_obj g h.box⟩
theorem NBox.at {w : World} {b : Nat} {u : Nat → S3} (h : NBox w b u) {k : Nat} (hk : k < 8) : w.cell? ⟨b, k, none⟩ = some (.slice (u k).a (u k).n (u k).c) := by rw [cell_of_block h.box]; exact lcells_at u hk
theorem NBox.all {w : World} {b : Nat} {u : Nat → S3} (h : NBox w b u) : LC w b u :=
  ⟨h.at (by decide), h.at (by decide), h.at (by decide), h.at (by decide), h.at (by decide), h.at (by decide), h.at (by decide), h.at (by decide)⟩
theorem NBox.far {w : World} {b : Nat} {u : Nat → S3} (h : NBox w b u) {p : Addr} (hp : p.block ≠ b) (v : Value) : NBox (w.setCell p v) b u := ⟨by rw [Go.Deep.blk_setCell_other _ _ _ _ (Ne.symm hp)]; exact h.box⟩
theorem NBox.set {w : World} {b : Nat} {u : Nat → S3} (h : NBox w b u) {k : Nat} (hk : k < 8) (A : Option Addr) (n c : Nat) : NBox (w.setCell ⟨b, k, none⟩ (.slice A n c)) b (updS u k ⟨A, n, c⟩) := ⟨by rw [block_setCell h.box]; exact congrArg (fun x => some (Obj.cells x 59 (0, 0))) (lcells_upd u hk ⟨A, n, c⟩)⟩
abbrev S0 : Nat → S3 := fun _ => ⟨none, 0, 0⟩
theorem NBox.kp {w w' : World} {g b : Nat} {u : Nat → S3} (h : NBox w b u) (k : Kp (some g) w w') (hr : b ≠ g) : NBox w' b u := ⟨kp_obj k h.box (fun e => hr (Option.some.inj e).symm)⟩
theorem VBox.kp {w w' : World} {g b : Nat} {a : Nat → Nat} (h : VBox w b a) (k : Kp (some g) w w') (hr : b ≠ g) : VBox w' b a := ⟨kp_obj k h.box (fun e => hr (Option.some.inj e).symm)⟩
theorem boxesNd (u : Nat → S3) (v : Nat → Nat) (w : World) : ∃ W, W = (((w.alloc (.cells (lcells u) 24)).alloc (.cells (vcells v) 34)).alloc (.cells (lcells S0) 59)).alloc (.cells (lcells S0) 59) ∧ Gr w W ∧ W.heap.size = w.heap.size + 4 ∧
    LBox W w.heap.size u ∧ VBox W (w.heap.size + 1) v ∧ NBox W (w.heap.size + 1 + 1) S0 ∧ NBox W (w.heap.size + 1 + 1 + 1) S0 := by
  obtain ⟨W, hW, hg, hs, hL, hV⟩ := boxesLV u v w
  rw [← hW]
  have h1 := heap_alloc W (lcells S0) 59
  have h2 := heap_alloc (W.alloc (.cells (lcells S0) 59)) (lcells S0) 59
  have e2 : (W.alloc (.cells (lcells S0) 59)).heap.size = w.heap.size + 3 := by simp [hs]
  rw [hs] at h1
  rw [e2] at h2
  have ga : Gr (W.alloc (.cells (lcells S0) 59)) ((W.alloc (.cells (lcells S0) 59)).alloc (.cells (lcells S0) 59)) := (Gr.refl _).alloc _
  exact ⟨_, rfl, (hg.alloc _).alloc _, by simp [hs], hL.gr (((Gr.refl _).alloc _).alloc _), hV.gr (((Gr.refl _).alloc _).alloc _), NBox.gr ⟨h1⟩ ga, ⟨h2⟩⟩
/-- A row of vectors that the call owns. -/
def RN (w : World) (B : Nat) (s : S3) (f : Nat → Nat → Nat) (n : Nat) : Prop := w.ownsRow B 34 8 (.slice s.a s.n s.c) n (vrows f n)
def needF (l : LG) (i : Nat) : Nat → Nat → Nat := fun k => needV (l i) (k + 1)
structure NdR (w : World) (l : LG) (v : Nat → Nat) (i : Nat) (nn : Nat → S3) (wr : World) : Prop where
  n : NBox wr (w.heap.size + 1 + 1 + 1) nn
  z : NBox wr (w.heap.size + 1 + 1) S0
  vb : VBox wr (w.heap.size + 1) v
  rows : ∀ j, j < i → RN wr (w.heap.size + 4) (nn j) (needF l j) (v j)
  gr : Gr w wr
theorem putCells_size : ∀ (cs : List Value) (w : World) (g o : Nat), (putCells w g o cs).heap.size = w.heap.size
  | [], _, _, _ => rfl
  | u :: r, w, g, o => by
    show (putCells (w.setCell ⟨g, o, none⟩ u) g (o + 1) r).heap.size = _
    rw [putCells_size r]
    simp [World.setCell]
theorem putCells_keep : ∀ (cs : List Value) (w : World) (g o : Nat) (x : Nat), x ≠ g → (putCells w g o cs).heap[x]? = w.heap[x]?
  | [], _, _, _, _, _ => rfl
  | u :: r, w, g, o, x, h => by
    show (putCells (w.setCell ⟨g, o, none⟩ u) g (o + 1) r).heap[x]? = _
    rw [putCells_keep r _ g (o + 1) x h, Go.Deep.blk_setCell_other _ _ _ _ h]
/-- A vector's box is stored anew. -/
theorem putV8 {w : World} {b : Nat} {a : Nat → Nat} (h : VBox w b a) (c : Nat → Nat) : (∀ x, x ≠ b → (putCells w b 0 (vcells c).toList).heap[x]? = w.heap[x]?) ∧ VBox (putCells w b 0 (vcells c).toList) b c := by
  refine ⟨fun x hx => putCells_keep _ _ _ _ _ hx, ⟨?_⟩⟩
  have h8 := (((((((h.set (k := 0) (by decide) (c 0)).set (k := 1) (by decide) (c 1)).set (k := 2) (by decide) (c 2)).set (k := 3) (by decide) (c 3)).set (k := 4) (by decide) (c 4)).set (k := 5) (by decide) (c 5)).set (k := 6) (by decide) (c 6)).set (k := 7) (by decide) (c 7)
  exact h8.box
theorem vrow_put {w : World} {B g n c : Nat} {f : Nat → Nat → Nat} (h : w.ownsRow B 34 8 (.slice (some ⟨g, 0, none⟩) n c) n (vrows f n)) {k : Nat} (hk : k < n) (a : Nat → Nat) :
    (putCells w g (k * 8) (vcells a).toList).ownsRow B 34 8 (.slice (some ⟨g, 0, none⟩) n c) n (vrows (fun i => if i = k then a else f i) n) ∧ Kp (some g) w (putCells w g (k * 8) (vcells a).toList) := by
  obtain ⟨h1, h2⟩ := own_putCells (vcells a).toList (k * 8) w _ h
  rw [vrows_set f hk a] at h1
  exact ⟨h1, h2⟩
theorem vrows_congr {f g : Nat → Nat → Nat} {n : Nat} (h : ∀ k, k < n → f k = g k) : vrows f n = vrows g n := by
  refine List.ext_getElem? fun j => ?_
  rcases Nat.lt_or_ge j (n * 8) with hj | hj
  · obtain ⟨q, r, rfl, hr⟩ : ∃ q r, j = q * 8 + r ∧ r < 8 := ⟨j / 8, j % 8, by omega, Nat.mod_lt _ (by decide)⟩
    rw [vrows_at f (by omega) hr, vrows_at g (by omega) hr, h q (by omega)]
  · rw [List.getElem?_eq_none (by rw [vrows_len]; exact hj), List.getElem?_eq_none (by rw [vrows_len]; exact hj)]
theorem vrow_cells {w : World} {B g n c : Nat} {f : Nat → Nat → Nat} (h : w.ownsRow B 34 8 (.slice (some ⟨g, 0, none⟩) n c) n (vrows f n)) {k r : Nat} (hk : k < n) (hr : r < 8) : w.cell? ⟨g, k * 8 + r, none⟩ = some (.int .u64 (f k r : Int)) := own_cell h (vrows_at f hk hr)

set_option maxRecDepth 100000 in
set_option maxHeartbeats 4000000 in
theorem needs_any (u : Nat → S3) (l : LG) (v : Nat → Nat) (w : World) (h : LV w u l) (hv : leqB v (sizeV l) = true) (hf : ∀ i, i < 8 → (l i).length * 112 ≤ 140737488355328) :
    Calls Try.prog 37 #[.agg (lcells u), .agg (vcells v)] w fun e w' => ∃ nn, e = .returned (.agg (lcells nn)) ∧ (∀ i, i < 8 → RN w' w.heap.size (nn i) (needF l i) (v i)) ∧ Gr w w' := by
  obtain ⟨W, hW, hg, hsz, hL, hV, hZ, hN⟩ := boxesNd u v w
  have HV := Lib.hid hV
  have HZ := Lib.hid hZ
  have HNB := Lib.hid hN
  have HG := Lib.hid hg
  have HX := Lib.hid h
  have HLE := Lib.hid hv
  have HF := Lib.hid hf
  obtain ⟨l0, l1, l2, l3, l4, l5, l6, l7⟩ := hL.all
  clear hL hV hZ hN hg hsz h hv hf
  go_enter Try.func37, Try.ntmps37
  go_upto_region 2 with (fail)
  rw [← hW]
  clear hW
  go_wp2_with fail
  go_loopw [12] (fun i wr => ∃ k : Nat, k ≤ 8 ∧ i = .int .i64 k ∧ Hid (∃ nn, NdR w l v k nn wr)) (fun i _ => 8 - (intOf i).toNat)
  case atStart => exact ⟨0, by decide, rfl, Lib.hid ⟨S0, HNB.out, HZ.out, HV.out, fun j hj => absurd hj (Nat.not_lt_zero _), HG.out⟩⟩
  case round =>
    clear l0 l1 l2 l3 l4 l5 l6 l7
    obtain ⟨k, hk, rfl, hcc⟩ := hrel
    rename World => wo
    obtain ⟨nn, hnr⟩ := hcc.out
    have HNR := Lib.hid hnr
    clear hcc hnr
    by_cases hlt : k < 8
    · have hk0 : (0 : Int) ≤ (k : Int) := Int.natCast_nonneg _
      have hk8 : (k : Int) < 8 := by omega
      have hix := fun W => run_index_logs u hlt W
      have hvl : v k ≤ (l k).length := lq HLE.out hlt
      have hun := HX.out.len hlt
      obtain ⟨hcap, hcm⟩ := HX.out.cap hlt
      obtain ⟨A, hA⟩ : ∃ A, A = (u k).a := ⟨_, rfl⟩
      obtain ⟨n, hn⟩ : ∃ n, n = (u k).n := ⟨_, rfl⟩
      obtain ⟨c, hc⟩ : ∃ c, c = (u k).c := ⟨_, rfl⟩
      rw [← hA, ← hn, ← hc] at hix
      rw [← hc] at hcap
      have HA := Lib.hid hA
      have hsl := fun W => slice_txs A (n := n) (k := v k) (c := c) (by omega) W
      have hfk := HF.out k hlt
      have hle := HX.out.le hlt
      obtain ⟨W1, hW1, hg1, hb1⟩ : ∃ W1, W1 = wo.alloc (.cells V0 34) ∧ Gr wo W1 ∧ VBox W1 wo.heap.size (fun _ => 0) := ⟨_, rfl, (Gr.refl wo).alloc _, ⟨heap_alloc _ _ _⟩⟩
      have hs1 : W1.heap.size = wo.heap.size + 1 := by rw [hW1]; simp
      obtain ⟨W2, hmk, hown2, hg2⟩ := make_vecs (v k) (by omega) W1
      have hvk := (HNR.out.vb.gr hg1).at hlt
      have hvk2 := (HNR.out.vb.gr (hg1.trans hg2)).at hlt
      have hnk := (HNR.out.n.gr (hg1.trans hg2)).at hlt
      have hfz : W2.frozen? ⟨w.heap.size + 1 + 1 + 1, k, none⟩ = false := unfrozen_of_block (HNR.out.n.gr (hg1.trans hg2)).box k
      have HB1 := Lib.hid (hb1.gr hg2)
      have HOWN2 := Lib.hid hown2
      have HG12 := Lib.hid (hg1.trans hg2)
      have HS1 := Lib.hid hs1
      obtain ⟨g, hgg⟩ : ∃ g, g = W1.heap.size := ⟨_, rfl⟩
      rw [← hgg] at hmk HOWN2
      have HGG := Lib.hid hgg
      have HCAP := Lib.hid hcap
      clear hb1 hown2 hg1 hg2 hs1 hun hA hn hc hcm hgg
      go_upto_region 6 with (fail)
      rw [← hW1]
      clear hW1
      go_upto_region 7 with (fail)
      have hgB : wo.heap.size < g := by rw [HGG.out, HS1.out]; omega
      have hwo : w.heap.size + 4 ≤ wo.heap.size := by
        have := (Array.getElem?_eq_some_iff.1 HNR.out.n.box).1
        omega
      obtain ⟨us, hus⟩ : ∃ f, f = updS nn k ⟨some ⟨g, 0, none⟩, v k, v k⟩ := ⟨_, rfl⟩
      have hn3 := (HNR.out.n.gr HG12.out).set hlt (some ⟨g, 0, none⟩) (v k) (v k)
      rw [← hus] at hn3
      have hz3 : NBox (W2.setCell ⟨w.heap.size + 1 + 1 + 1, k, none⟩ (.slice (some ⟨g, 0, none⟩) (v k) (v k))) (w.heap.size + 1 + 1) S0 := (HNR.out.z.gr HG12.out).far (by simp only []; omega) _
      have hv3 : VBox (W2.setCell ⟨w.heap.size + 1 + 1 + 1, k, none⟩ (.slice (some ⟨g, 0, none⟩) (v k) (v k))) (w.heap.size + 1) v := (HNR.out.vb.gr HG12.out).far (by simp only []; omega) _
      have hb3 : VBox (W2.setCell ⟨w.heap.size + 1 + 1 + 1, k, none⟩ (.slice (some ⟨g, 0, none⟩) (v k) (v k))) wo.heap.size (fun _ => 0) := HB1.out.far (by simp only []; omega) _
      have hm3 : Mid (w.heap.size + 4) wo (W2.setCell ⟨w.heap.size + 1 + 1 + 1, k, none⟩ (.slice (some ⟨g, 0, none⟩) (v k) (v k))) := (Mid.of_gr HG12.out).set (.inl (by simp only []; omega)) _
      have hg3 : Gr w (W2.setCell ⟨w.heap.size + 1 + 1 + 1, k, none⟩ (.slice (some ⟨g, 0, none⟩) (v k) (v k))) := (HNR.out.gr.trans HG12.out).setCell (by simp only []; omega) _
      have ho3 := ownsRow_setCell_below HOWN2.out (a := ⟨w.heap.size + 1 + 1 + 1, k, none⟩) (by simp only []; omega) (.slice (some ⟨g, 0, none⟩) (v k) (v k))
      obtain ⟨w3, hw3⟩ : ∃ x, x = W2.setCell ⟨w.heap.size + 1 + 1 + 1, k, none⟩ (.slice (some ⟨g, 0, none⟩) (v k) (v k)) := ⟨_, rfl⟩
      rw [← hw3] at hn3 hz3 hv3 hb3 hm3 hg3 ho3 ⊢
      have hvk3 := hv3.at hlt
      have HUS := Lib.hid hus
      have HST : Hid (NBox w3 (w.heap.size + 1 + 1 + 1) us ∧ NBox w3 (w.heap.size + 1 + 1) S0 ∧ VBox w3 (w.heap.size + 1) v ∧ VBox w3 wo.heap.size (needV (l k) 0) ∧ Mid (w.heap.size + 4) wo w3 ∧ Gr w w3 ∧ ∃ f, (∀ j, j < 0 → f j = needF l k j) ∧ w3.ownsRow g 34 8 (.slice (some ⟨g, 0, none⟩) (v k) (v k)) (v k) (vrows f (v k))) := Lib.hid ⟨hn3, hz3, hv3, hb3, hm3, hg3, _, fun j hj => absurd hj (Nat.not_lt_zero _), ho3⟩
      clear hw3 hn3 hz3 hv3 hb3 hm3 hg3 ho3 hus hvk hvk2 hnk hfz hmk hix
      go_wp2_with fail
      clear hvk3
      go_loopw [28] (fun i wr => ∃ d : Nat, d ≤ v k ∧ i = .int .i64 d ∧ Hid (NBox wr (w.heap.size + 1 + 1 + 1) us ∧ NBox wr (w.heap.size + 1 + 1) S0 ∧ VBox wr (w.heap.size + 1) v ∧ VBox wr wo.heap.size (needV (l k) d) ∧ Mid (w.heap.size + 4) wo wr ∧ Gr w wr ∧ ∃ f, (∀ j, j < d → f j = needF l k j) ∧ wr.ownsRow g 34 8 (.slice (some ⟨g, 0, none⟩) (v k) (v k)) (v k) (vrows f (v k)))) (fun i _ => v k - (intOf i).toNat)
      case atStart => exact ⟨0, Nat.zero_le _, rfl, HST⟩
      case round =>
        obtain ⟨d, hd, rfl, hst⟩ := hrel
        rename World => wr
        by_cases hdv : d < v k
        · have hdl : d < (l k).length := by omega
          obtain ⟨b, off, ha, xv, hx0, hx⟩ := (HX.out.gr hst.out.2.2.2.2.2.1).cell hlt hdl
          rw [← HA.out] at ha
          subst ha
          obtain ⟨t, ht⟩ : ∃ t, t = (l k)[d] := ⟨_, rfl⟩
          rw [← ht] at hx0 hx
          obtain ⟨Ax, cx, rfl⟩ := tov_form hx0
          obtain ⟨nx, hnx⟩ : ∃ n, n = t.ops.length := ⟨_, rfl⟩
          rw [← hnx] at hx
          obtain ⟨x0, x1, x2, x3, x4, x5, x6, x7, x8, x9, x10, x11⟩ := hx
          obtain ⟨W5, hW5, hg5, hx5⟩ := xbox wr t (.slice Ax nx cx)
          have hd0 : (0 : Int) ≤ (d : Int) := by omega
          have hd1 : (d : Int) < (v k : Int) := by omega
          have hdl1 : (d : Int) < (n : Int) ∨ True := .inr trivial
          have HX5 := Lib.hid hx5
          have HG5 := Lib.hid hg5
          have HT : Hid ((l k)[d]? = some t) := Lib.hid (by rw [ht]; exact List.getElem?_eq_getElem hdl)
          have HJ := Lib.hid (fun w1 => join_any (needV (l k) d) t.deps w1)
          have hb5 := hst.out.2.2.2.1.gr hg5
          obtain ⟨a0, a1, a2, a3, a4, a5, a6, a7⟩ := hb5.all
          obtain ⟨p0, p1, p2, p3, p4, p5, p6, p7, p8, p9, p10, p11⟩ := hx5
          clear hx0 hg5 ht hnx hb5
          go_upto_region 10 with (fail)
          rw [← hW5]
          clear hW5 x0 x1 x2 x3 x4 x5 x6 x7 x8 x9 x10 x11
          go_wp2_with fail
          refine (HJ.out _).mono ?_
          rintro e w6 ⟨rfl, g6⟩
          clear a0 a1 a2 a3 a4 a5 a6 a7 p0 p1 p2 p3 p4 p5 p6 p7 p8 p9 p10 p11
          have HG6 := Lib.hid (HG5.out.trans g6)
          have hb6 := hst.out.2.2.2.1.gr HG6.out
          obtain ⟨a0, a1, a2, a3, a4, a5, a6, a7⟩ := hb6.all
          obtain ⟨z0, z1, z2, z3, z4, z5, z6, z7⟩ := hb6.fz
          clear g6 hb6
          go_upto_region 11 with (fail)
          clear a0 a1 a2 a3 a4 a5 a6 a7 z0 z1 z2 z3 z4 z5 z6 z7
          obtain ⟨hnb, hzb, hvb, hab, hmid, hgr, f, hff, hrow⟩ := hst.out
          have hgr6 := hgr.trans HG6.out
          have hgw := (own_len hrow).2.2
          have hsz6 := HG6.out.size
          have hne1 : w.heap.size + 1 + 1 + 1 ≠ wo.heap.size := by omega
          have hne2 : w.heap.size + 1 + 1 ≠ wo.heap.size := by omega
          have hne3 : w.heap.size + 1 ≠ wo.heap.size := by omega
          obtain ⟨hn7, hz7, hv7, ha7, hm7, hg7, hr7⟩ : NBox (putCells w6 wo.heap.size 0 (vcells (jn (needV (l k) d) t.deps)).toList) (w.heap.size + 1 + 1 + 1) us ∧ NBox (putCells w6 wo.heap.size 0 (vcells (jn (needV (l k) d) t.deps)).toList) (w.heap.size + 1 + 1) S0 ∧ VBox (putCells w6 wo.heap.size 0 (vcells (jn (needV (l k) d) t.deps)).toList) (w.heap.size + 1) v ∧ VBox (putCells w6 wo.heap.size 0 (vcells (jn (needV (l k) d) t.deps)).toList) wo.heap.size (jn (needV (l k) d) t.deps) ∧ Mid (w.heap.size + 4) wo (putCells w6 wo.heap.size 0 (vcells (jn (needV (l k) d) t.deps)).toList) ∧ Gr w (putCells w6 wo.heap.size 0 (vcells (jn (needV (l k) d) t.deps)).toList) ∧ (putCells w6 wo.heap.size 0 (vcells (jn (needV (l k) d) t.deps)).toList).ownsRow g 34 8 (.slice (some ⟨g, 0, none⟩) (v k) (v k)) (v k) (vrows f (v k)) := by
            obtain ⟨hkeep, hvs⟩ := putV8 (hab.gr HG6.out) (jn (needV (l k) d) t.deps)
            refine ⟨⟨by rw [hkeep _ hne1]; exact (hnb.gr HG6.out).box⟩, ⟨by rw [hkeep _ hne2]; exact (hzb.gr HG6.out).box⟩, ⟨by rw [hkeep _ hne3]; exact (hvb.gr HG6.out).box⟩, hvs, ⟨?_, fun x hx hl => ?_⟩, Gr.putCells (by omega) _ _ hgr6, ?_⟩
            · rw [putCells_size]
              exact Nat.le_trans hmid.size hsz6
            · rw [hkeep x (by omega)]
              exact (hmid.gr HG6.out).mid x hx hl
            · exact own_mid (own_gr hrow HG6.out) (mid_putCells (by omega) _ _ _)
          obtain ⟨w7, hw7⟩ : ∃ x, x = putCells w6 wo.heap.size 0 (vcells (jn (needV (l k) d) t.deps)).toList := ⟨_, rfl⟩
          rw [← hw7] at hn7 hz7 hv7 ha7 hm7 hg7 hr7
          have husk : us k = ⟨some ⟨g, 0, none⟩, v k, v k⟩ := by rw [HUS.out]; exact if_pos rfl
          have hnk7 := hn7.at hlt
          rw [husk] at hnk7
          have hnx : needV (l k) (d + 1) = jn (needV (l k) d) t.deps := needV_next HT.out
          have HN7 := Lib.hid hn7
          have HZ7 := Lib.hid hz7
          have HV7 := Lib.hid hv7
          have HA7 := Lib.hid ha7
          have HM7 := Lib.hid hm7
          have HG7 := Lib.hid hg7
          have HR7 := Lib.hid hr7
          have HNK := Lib.hid hnk7
          have HFF := Lib.hid hff
          have HNX := Lib.hid hnx
          have HGL : Hid (wo.heap.size < g) := Lib.hid hgB
          clear hnb hzb hvb hab hmid hgr hrow hff hgr6 hgw hsz6 hne1 hne2 hne3 hn7 hz7 hv7 ha7 hm7 hg7 hr7 husk hnk7 hnx
          change Code.wp Try.prog _ _ _ (putCells w6 wo.heap.size 0 (vcells (jn (needV (l k) d) t.deps)).toList)
          rw [← hw7]
          clear hw7
          refine qTail 5 (fun w' => w'.cell? ⟨w.heap.size + 1 + 1 + 1, k, none⟩ = some (.slice (some ⟨g, 0, none⟩) (v k) (v k)) ∧ VC w' wo.heap.size (jn (needV (l k) d) t.deps) ∧ Gr w7 w') (by kernel_rfl) (by kernel_rfl) ⟨(Gr.refl _).drew.cell HNK.out, HA7.out.vc.gr (Gr.refl _).drew, (Gr.refl _).drew⟩ ?_
          simp only [List.take_succ_cons, List.take_zero, List.drop_succ_cons, List.drop_zero]
          iterate 5
            refine qTake (by kernel_rfl) ?_
            apply Exists.intro
            refine ⟨fun wq hq => ?_, ?_⟩
            · go_light
              obtain ⟨e11, ⟨e0, e1, e2, e3, e4, e5, e6, e7⟩, -⟩ := hq
              go_simp
              try with_reducible rfl
              done
            try simp only [Act.put, List.setIfInBounds_toArray, List.set_cons_zero, List.set_cons_succ]
          refine qNil ?_
          intro w8 hC
          have hr8 := own_gr HR7.out hC.2.2
          have q0 := vrow_cells hr8 hdv (r := 0) (by decide)
          have q1 := vrow_cells hr8 hdv (r := 1) (by decide)
          have q2 := vrow_cells hr8 hdv (r := 2) (by decide)
          have q3 := vrow_cells hr8 hdv (r := 3) (by decide)
          have q4 := vrow_cells hr8 hdv (r := 4) (by decide)
          have q5 := vrow_cells hr8 hdv (r := 5) (by decide)
          have q6 := vrow_cells hr8 hdv (r := 6) (by decide)
          have q7 := vrow_cells hr8 hdv (r := 7) (by decide)
          have y0 := own_free hr8 (d * 8)
          have y1 := own_free hr8 (d * 8 + 1)
          have y2 := own_free hr8 (d * 8 + 2)
          have y3 := own_free hr8 (d * 8 + 3)
          have y4 := own_free hr8 (d * 8 + 4)
          have y5 := own_free hr8 (d * 8 + 5)
          have y6 := own_free hr8 (d * 8 + 6)
          have y7 := own_free hr8 (d * 8 + 7)
          obtain ⟨hr9, hk9⟩ := vrow_put hr8 hdv (jn (needV (l k) d) t.deps)
          have HR9 := Lib.hid hr9
          have HK9 := Lib.hid hk9
          have HG8 := Lib.hid hC.2.2
          clear hr8 hr9 hk9 hC
          rw [Nat.add_zero] at q0
          go_wp2_with fail
          have hsz9 : Hid (w7.heap.size ≤ w8.heap.size) := Lib.hid HG8.out.size
          have HFIN : Hid (NBox (putCells w8 g (d * 8) (vcells (jn (needV (l k) d) t.deps)).toList) (w.heap.size + 1 + 1 + 1) us ∧ NBox (putCells w8 g (d * 8) (vcells (jn (needV (l k) d) t.deps)).toList) (w.heap.size + 1 + 1) S0 ∧ VBox (putCells w8 g (d * 8) (vcells (jn (needV (l k) d) t.deps)).toList) (w.heap.size + 1) v ∧ VBox (putCells w8 g (d * 8) (vcells (jn (needV (l k) d) t.deps)).toList) wo.heap.size (needV (l k) (d + 1)) ∧ Mid (w.heap.size + 4) wo (putCells w8 g (d * 8) (vcells (jn (needV (l k) d) t.deps)).toList) ∧ Gr w (putCells w8 g (d * 8) (vcells (jn (needV (l k) d) t.deps)).toList) ∧ ∃ f, (∀ j, j < d + 1 → f j = needF l k j) ∧ (putCells w8 g (d * 8) (vcells (jn (needV (l k) d) t.deps)).toList).ownsRow g 34 8 (.slice (some ⟨g, 0, none⟩) (v k) (v k)) (v k) (vrows f (v k))) := Lib.hid (by
            have h1 := HGL.out
            refine ⟨(HN7.out.gr HG8.out).kp HK9.out (by omega), (HZ7.out.gr HG8.out).kp HK9.out (by omega), (HV7.out.gr HG8.out).kp HK9.out (by omega), ?_, ⟨?_, fun x hx hl => ?_⟩, (HG7.out.trans HG8.out).trans_kp HK9.out (by omega), fun i => if i = d then jn (needV (l k) d) t.deps else f i, fun j hj => ?_, HR9.out⟩
            · rw [HNX.out]; exact (HA7.out.gr HG8.out).kp HK9.out (by omega)
            · rw [putCells_size]; exact Nat.le_trans HM7.out.size HG8.out.size
            · rw [putCells_keep _ _ _ _ _ (by omega)]
              exact (HM7.out.gr HG8.out).mid x hx hl
            · show (if j = d then jn (needV (l k) d) t.deps else f j) = needF l k j
              by_cases e : j = d
              · rw [if_pos e, e]
                exact HNX.out.symm
              · rw [if_neg e]
                exact HFF.out j (by omega))
          go_roundw
          case measure => simp [intOf]; omega
          case rel => exact ⟨d + 1, by omega, by go_num, HFIN⟩
        · obtain rfl : d = v k := by omega
          obtain ⟨hnb, hzb, hvb, hab, hmid, hgr, f, hff, hrow⟩ := hst.out
          have HCC : Hid (∃ nn, NdR w l v (k + 1) nn wr) := Lib.hid ⟨us, hnb, hzb, hvb, fun j hj => by
            by_cases e : j = k
            · subst e
              have e2 : us j = ⟨some ⟨g, 0, none⟩, v j, v j⟩ := by rw [HUS.out]; exact if_pos rfl
              rw [e2]
              unfold RN
              rw [← vrows_congr hff]
              exact own_le hrow (by omega)
            · have e2 : us j = nn j := by rw [HUS.out]; exact if_neg e
              rw [e2]
              exact own_mid (HNR.out.rows j (by omega)) hmid, hgr⟩
          have hnv : ¬ ((v k : Int) < (v k : Int)) := by omega
          clear hnb hzb hvb hab hmid hgr hff hrow
          go_wp2_with fail
          go_roundw
          case measure => simp [intOf]; omega
          case rel => exact ⟨k + 1, by omega, by go_num, HCC⟩
    · obtain ⟨q0, q1, q2, q3, q4, q5, q6, q7⟩ := HNR.out.n.all
      have hz := HNR.out.z
      obtain ⟨s0, s1, s2, s3, s4, s5, s6, s7⟩ := hz.all
      have f0 := unfrozen_of_block hz.box 0
      have f1 := unfrozen_of_block hz.box 1
      have f2 := unfrozen_of_block hz.box 2
      have f3 := unfrozen_of_block hz.box 3
      have f4 := unfrozen_of_block hz.box 4
      have f5 := unfrozen_of_block hz.box 5
      have f6 := unfrozen_of_block hz.box 6
      have f7 := unfrozen_of_block hz.box 7
      have hge : ¬ ((k : Int) < 8) := by omega
      have HRW : Hid (∀ i, i < 8 → RN wo (w.heap.size + 4) (nn i) (needF l i) (v i)) := Lib.hid fun i hi => HNR.out.rows i (by omega)
      have HG2 := Lib.hid HNR.out.gr
      clear hz
      go_wp2_with fail
      refine bodyPost_ret (v := .agg (lcells nn)) (by simp [results, Try.results37, go_sem, *]) rfl ⟨nn, rfl, ?_, ?_⟩
      · show ∀ i, i < 8 → RN (putCells wo (w.heap.size + 1 + 1) 0 [.slice (nn 0).a (nn 0).n (nn 0).c, .slice (nn 1).a (nn 1).n (nn 1).c, .slice (nn 2).a (nn 2).n (nn 2).c, .slice (nn 3).a (nn 3).n (nn 3).c, .slice (nn 4).a (nn 4).n (nn 4).c, .slice (nn 5).a (nn 5).n (nn 5).c, .slice (nn 6).a (nn 6).n (nn 6).c, .slice (nn 7).a (nn 7).n (nn 7).c]) w.heap.size (nn i) (needF l i) (v i)
        exact fun i hi => own_le (own_mid (HRW.out i hi) (mid_putCells (by omega) _ _ _)) (by omega)
      · show Gr w (putCells wo (w.heap.size + 1 + 1) 0 [.slice (nn 0).a (nn 0).n (nn 0).c, .slice (nn 1).a (nn 1).n (nn 1).c, .slice (nn 2).a (nn 2).n (nn 2).c, .slice (nn 3).a (nn 3).n (nn 3).c, .slice (nn 4).a (nn 4).n (nn 4).c, .slice (nn 5).a (nn 5).n (nn 5).c, .slice (nn 6).a (nn 6).n (nn 6).c, .slice (nn 7).a (nn 7).n (nn 7).c])
        exact Gr.putCells (by omega) _ _ HG2.out
end Go.Proofs.Ytlgljanofppleaa
