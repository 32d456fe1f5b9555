/- Owned logs outlive what is stored into boxes; the beginnings of logs, walked; what a region of such calls leaves. -/
import Derived.Test.YtlgljanofppleaaInvG
import Derived.Test.YtlgljanofppleaaCutV
namespace Go.Proofs.Ytlgljanofppleaa
open Go.RowKit Go.Joins
set_option linter.unusedSimpArgs false
set_option linter.unusedVariables false

/-- The types of boxes: all but transactions and operations. -/
def btL (t : TypeId) : Bool := !(t == 44 || t == 55)
theorem XN.keeps {w w' : World} {B : Nat} {v : Value} {L : List TX} (h : XN w B v L) (k : Keeps btL w w') : XN w' B v L := by
  obtain ⟨R, h1, h2, h3⟩ := h
  exact ⟨R, h1, own_keeps h2 (by decide) k, fun r hr => own_keeps (h3 r hr) (by decide) k⟩
theorem LN.keeps {w w' : World} {B : Nat} {u : Nat → S3} {l : LG} (h : LN w B u l) (k : Keeps btL w w') : LN w' B u l := fun i hi => (h i hi).keeps k
theorem LN.le {w : World} {B B' : Nat} {u : Nat → S3} {l : LG} (h : LN w B u l) (hb : B' ≤ B) : LN w B' u l := fun i hi => (h i hi).le hb
theorem trs_take (R : List TR) (k : Nat) : (trs R).take (k * 12) = trs (R.take k) := rows_take trcells 12 (fun _ => rfl) R k
theorem XN.take {w : World} {B n c k : Nat} {A : Option Addr} {L : List TX} (h : XN w B (.slice A n c) L) (hk : k ≤ n) : XN w B (.slice A k c) (L.take k) := by
  obtain ⟨R, h1, h2, h3⟩ := h
  have h4 : w.ownsRow B 44 12 (.slice A n c) R.length (trs R) := h2
  obtain ⟨A', c', hv, -, -⟩ := own_form h4
  injection hv with e1 e2 e3
  subst e1 e2 e3
  rcases h4.2 with ⟨hh, h0⟩ | ⟨g, cap, cur, hh, hb, hg, hr⟩
  · injection hh with q1 q2 q3
    subst q1 q3
    obtain rfl : k = 0 := by omega
    exact ⟨[], by simp [texts], World.ownsRow_nil w B _ _, fun r hr => by cases hr⟩
  · injection hh with q1 q2 q3
    subst q1
    have h5 := own_prefix h4 hk
    rw [trs_take] at h5
    refine ⟨R.take k, ?_, ?_, fun r hr => h3 r (List.mem_of_mem_take hr)⟩
    · rw [← h1]; unfold texts; rw [List.map_take]
    · show w.ownsRow B _ 12 _ (R.take k).length _
      rw [List.length_take, Nat.min_eq_left hk]
      exact h5
theorem setCell_keeps {bt : TypeId → Bool} {w : World} {P : Nat} {z : Array Value} {t : TypeId} {fr : Nat × Nat} (h : w.heap[P]? = some (.cells z t fr)) (ht : bt t = true) (i : Nat) (v : Value) : Keeps bt w (w.setCell ⟨P, i, none⟩ v) := putCells_keeps h ht [v] i
/-- Of the first k logs the slices are cut. -/
def cutS (u : Nat → S3) (v : Nat → Nat) (k : Nat) : Nat → S3 := fun j => if j < k then ⟨(u j).a, v j, (u j).c⟩ else u j
theorem cutS_next (u : Nat → S3) (v : Nat → Nat) (k : Nat) : updS (cutS u v k) k ⟨(u k).a, v k, (u k).c⟩ = cutS u v (k + 1) := by
  funext j
  unfold updS cutS
  by_cases e : j = k
  · subst e; rw [if_pos rfl, if_pos (by omega)]
  · rw [if_neg e]
    by_cases q : j < k
    · rw [if_pos q, if_pos (by omega)]
    · rw [if_neg q, if_neg (by omega)]
theorem cutS_zero (u : Nat → S3) (v : Nat → Nat) : cutS u v 0 = u := by
  funext j
  unfold cutS
  rw [if_neg (by omega)]
theorem cutS_at (u : Nat → S3) (v : Nat → Nat) (k : Nat) : cutS u v k k = u k := if_neg (by omega)
/-- What the rounds of first leave. -/
structure FstR (w W : World) (v : Nat → Nat) (P B : Nat) (uk : Nat → S3) (l : LG) (k : Nat) (wr : World) : Prop where
  xo : LBox wr P (cutS uk v k)
  xz : LBox wr (w.heap.size + 1 + 1) Z3
  xv : VBox wr (w.heap.size + 1) v
  ln : LN wr B uk l
  gr : Gr W wr
theorem FstR.next {w W : World} {v : Nat → Nat} {P B : Nat} {uk : Nat → S3} {l : LG} {k : Nat} {wr w' : World} (h : FstR w W v P B uk l k wr) (g : Gr wr w') : FstR w W v P B uk l k w' :=
  ⟨h.xo.gr g, h.xz.gr g, h.xv.gr g, h.ln.keeps (Keeps.of_gr g), h.gr.trans g⟩
theorem FstR.more {w W : World} {v : Nat → Nat} {P B : Nat} {uk : Nat → S3} {l : LG} {k : Nat} {wr : World} (h : FstR w W v P B uk l k wr) (hP : w.heap.size + 3 ≤ P) (hW : W.heap.size = w.heap.size + 3) (hk : k < 8) : FstR w W v P B uk l (k + 1) (wr.setCell ⟨P, k, none⟩ (.slice (uk k).a (v k) (uk k).c)) :=
  ⟨by rw [← cutS_next]; exact h.xo.set hk _ _ _, h.xz.far (by simp only []; omega) _, h.xv.far (by simp only []; omega) _, h.ln.keeps (setCell_keeps h.xo.box (by decide) _ _), h.gr.setCell (by rw [hW]; simp only []; omega) _⟩
theorem boxesFi (u : Nat → S3) (v : Nat → Nat) (w : World) : ∃ W, W = ((w.alloc (.cells (lcells u) 24)).alloc (.cells (vcells v) 34)).alloc (.cells (lcells fun _ => ⟨none, 0, 0⟩) 24) ∧ Gr w W ∧ W.heap.size = w.heap.size + 3 ∧
    LBox W w.heap.size u ∧ VBox W (w.heap.size + 1) v ∧ LBox W (w.heap.size + 1 + 1) Z3 := by
  obtain ⟨W, hW, hg, hs, hA, hB⟩ := boxesLV u v w
  rw [← hW]
  have h1 := heap_alloc W (lcells fun _ => ⟨none, 0, 0⟩) 24
  rw [hs] at h1
  exact ⟨_, rfl, hg.alloc _, by simp [hs], hA.gr ((Gr.refl _).alloc _), hB.gr ((Gr.refl _).alloc _), ⟨h1⟩⟩

set_option maxRecDepth 100000 in
set_option maxHeartbeats 4000000 in
theorem first9_any (u : Nat → S3) (l : LG) (v : Nat → Nat) (w : World) (h : LV w u l) (hf : FitC l) (hv : leqB v (sizeV l) = true) :
    Calls Try.prog 30 #[.agg (lcells u), .agg (vcells v)] w fun e w' => ∃ u', e = .returned (.agg (lcells u')) ∧ LN w' w.heap.size u' (pre l v) ∧ Gr w w' := by
  obtain ⟨W, hW, hg, hsz, hL, hV, hZ⟩ := boxesFi u v w
  have HV := Lib.hid hV
  have HZ := Lib.hid hZ
  have HG := Lib.hid hg
  have HSZ := Lib.hid hsz
  have HVL := Lib.hid hv
  have HCP := Lib.hid (rcopy9_any u l W (h.gr hg) hf)
  obtain ⟨l0, l1, l2, l3, l4, l5, l6, l7⟩ := hL.all
  clear hL hV hZ hg hsz h hv hf
  go_enter Try.func30, Try.ntmps30
  go_upto_region 1 with (fail)
  rw [← hW]
  clear hW
  go_wp2_with fail
  refine HCP.out.mono ?_
  rintro e w3 ⟨uk, rfl, hlk, g3⟩
  have hz : LBox (w3.alloc (.cells (lcells fun _ => ⟨none, 0, 0⟩) 24)) w3.heap.size Z3 := ⟨heap_alloc _ _ _⟩
  obtain ⟨c0, c1, c2, c3, c4, c5, c6, c7⟩ := hz.zero
  have f0 := unfrozen_of_block hz.box 0
  have f1 := unfrozen_of_block hz.box 1
  have f2 := unfrozen_of_block hz.box 2
  have f3 := unfrozen_of_block hz.box 3
  have f4 := unfrozen_of_block hz.box 4
  have f5 := unfrozen_of_block hz.box 5
  have f6 := unfrozen_of_block hz.box 6
  have f7 := unfrozen_of_block hz.box 7
  have HLK := Lib.hid hlk
  have HG3 := Lib.hid g3
  clear hz hlk g3 l0 l1 l2 l3 l4 l5 l6 l7
  go_upto_region 2 with (fail)
  have hb4 : LBox (w3.alloc (.cells (lcells uk) 24)) w3.heap.size uk := ⟨heap_alloc _ _ _⟩
  have g4 : Gr w3 (w3.alloc (.cells (lcells uk) 24)) := (Gr.refl w3).alloc _
  obtain ⟨w4, hw4⟩ : ∃ x, x = (w3.alloc (.cells (lcells uk) 24)) := ⟨_, rfl⟩
  rw [← hw4] at hb4 g4 ⊢
  obtain ⟨P, hP⟩ : ∃ P, P = w3.heap.size := ⟨_, rfl⟩
  have HPP : Hid (w.heap.size + 3 ≤ P) := Lib.hid (by have := HG3.out.size; have := HSZ.out; omega)
  rw [← hP] at hb4 ⊢
  have HS4 : Hid (FstR w W v P W.heap.size uk l 0 w4) := Lib.hid ⟨by rw [cutS_zero]; exact hb4, HZ.out.gr (HG3.out.trans g4), HV.out.gr (HG3.out.trans g4), HLK.out.keeps (Keeps.of_gr g4), HG3.out.trans g4⟩
  clear hw4 hP c0 c1 c2 c3 c4 c5 c6 c7 f0 f1 f2 f3 f4 f5 f6 f7 hb4 g4
  go_wp2_with fail
  go_loopw [6] (fun i wr => ∃ k : Nat, k ≤ 8 ∧ i = .int .i64 k ∧ Hid (FstR w W v P W.heap.size uk l k wr)) (fun i _ => 8 - (intOf i).toNat)
  case atStart => exact ⟨0, by decide, rfl, HS4⟩
  case round =>
    obtain ⟨k, hk, rfl, hst⟩ := hrel
    rename World => wr
    by_cases hlt : k < 8
    · have hk0 : (0 : Int) ≤ (k : Int) := Int.natCast_nonneg _
      have hk8 : (k : Int) < 8 := by omega
      have hcv := hst.out.xv.at hlt
      have hcl := hst.out.xo.at hlt
      rw [cutS_at] at hcl
      obtain ⟨Ax, cx, hxv, hxn, hxc⟩ := (hst.out.ln.lv k hlt)
      injection hxv with e1 e2 e3
      have hvn : v k ≤ (uk k).n := by rw [e2]; exact lq HVL.out hlt
      have hnc : (uk k).n ≤ (uk k).c := by rw [e2, e3]; exact hxn
      clear hxn hxc e1 e2 e3
      obtain ⟨A, hA⟩ : ∃ A, A = (uk k).a := ⟨_, rfl⟩
      obtain ⟨n, hn⟩ : ∃ n, n = (uk k).n := ⟨_, rfl⟩
      obtain ⟨c, hc⟩ : ∃ c, c = (uk k).c := ⟨_, rfl⟩
      obtain ⟨m, hm⟩ : ∃ m, m = v k := ⟨_, rfl⟩
      rw [← hA, ← hn, ← hc] at hcl
      rw [← hm] at hcv
      have hs1 := fun W => slice_txs A (n := n) (k := m) (c := c) (by omega) W
      have HMO := Lib.hid (hst.out.more HPP.out HSZ.out hlt)
      have HCV := Lib.hid hcv
      have HCL := Lib.hid hcl
      have HE : Hid (Value.slice A m c = Value.slice (uk k).a (v k) (uk k).c) := Lib.hid (by rw [hA, hc, hm])
      clear hA hn hc hm hvn hnc hcv hcl
      go_upto_region 5 with (fail)
      refine qTail 9 (fun w' => w'.cell? ⟨P, k, none⟩ = some (.slice A n c) ∧ w'.cell? ⟨w.heap.size + 1, k, none⟩ = some (.int .u64 (m : Int)) ∧ Gr wr w') (by kernel_rfl) (by kernel_rfl) ⟨(Gr.refl _).drew.cell HCL.out, (Gr.refl _).drew.cell HCV.out, (Gr.refl _).drew⟩ ?_
      simp only [List.take_succ_cons, List.take_zero, List.drop_succ_cons, List.drop_zero]
      iterate 9
        refine qTake (by kernel_rfl) ?_
        apply Exists.intro
        refine ⟨fun wq hq => ?_, ?_⟩
        · go_light
          obtain ⟨e0, e1, -⟩ := hq
          go_simp
          try with_reducible rfl
          done
        try simp only [Act.put, List.setIfInBounds_toArray, List.set_cons_zero, List.set_cons_succ]
      refine qNil ?_
      intro w5 hC
      have hst5 := hst.out.next hC.2.2
      have hc5 := hC.1
      have hfz : w5.frozen? ⟨P, k, none⟩ = false := unfrozen_of_block hst5.xo.box k
      have HMO : Hid (FstR w W v P W.heap.size uk l (k + 1) (w5.setCell ⟨P, k, none⟩ (.slice A m c))) := Lib.hid (by rw [HE.out]; exact hst5.more HPP.out HSZ.out hlt)
      clear hst5 hC
      go_wp2_with fail
      go_roundw
      case measure => simp [intOf]; omega
      case rel => exact ⟨k + 1, by omega, by go_num, HMO⟩
    · obtain rfl : k = 8 := by omega
      obtain ⟨l0, l1, l2, l3, l4, l5, l6, l7⟩ := hst.out.xo.all
      obtain ⟨c0, c1, c2, c3, c4, c5, c6, c7⟩ := hst.out.xz.zero
      have hbz := hst.out.xz.box
      have f0 := unfrozen_of_block hbz 0
      have f1 := unfrozen_of_block hbz 1
      have f2 := unfrozen_of_block hbz 2
      have f3 := unfrozen_of_block hbz 3
      have f4 := unfrozen_of_block hbz 4
      have f5 := unfrozen_of_block hbz 5
      have f6 := unfrozen_of_block hbz 6
      have f7 := unfrozen_of_block hbz 7
      obtain ⟨us, hus⟩ : ∃ x, x = cutS uk v 8 := ⟨_, rfl⟩
      rw [← hus] at l0 l1 l2 l3 l4 l5 l6 l7
      have HE : Hid (LN (putCells wr (w.heap.size + 1 + 1) 0 (lcells us).toList) w.heap.size us (pre l v) ∧ Gr w (putCells wr (w.heap.size + 1 + 1) 0 (lcells us).toList)) := Lib.hid ⟨by
          refine LN.keeps (w := wr) (fun i hi => ?_) (putCells_keeps hst.out.xz.box (by decide) _ _)
          rw [hus, show cutS uk v 8 i = ⟨(uk i).a, v i, (uk i).c⟩ from if_pos hi]
          have h1 := hst.out.ln i hi
          obtain ⟨Ax, cx, hxv, -⟩ := h1.xv
          injection hxv with e1 e2 e3
          exact (h1.take (by rw [e2]; exact lq HVL.out hi)).le (by rw [HSZ.out]; omega), Gr.putCells (by omega) _ _ (HG.out.trans hst.out.gr)⟩
      clear hus hbz hst
      go_wp2_with fail
      exact bodyPost_ret (v := .agg (lcells us)) (by simp [results, Try.results30, go_sem, *]) rfl ⟨us, rfl, HE.out.1, HE.out.2⟩
/-- The values of a region of such calls: plain ones, owned logs, owned logs beside an error's number. -/
structure QL (F : Nat → Option Value) (G : Nat → Option LG) (J : Nat → Option (LG × Nat)) (B : Nat) (k : Nat) (w : World) (y : Value) : Prop where
  f : ∀ v, F k = some v → y = v
  g : ∀ L, G k = some L → ∃ u, y = .agg (lcells u) ∧ LN w B u L
  j : ∀ L, J k = some L → ∃ u, y = .tuple #[.agg (lcells u), .int .i64 (L.2 : Int)] ∧ LN w B u L.1
theorem QL.st {F : Nat → Option Value} {G : Nat → Option LG} {J : Nat → Option (LG × Nat)} {B : Nat} : ∀ k y w1 w2, QL F G J B k w1 y → Keeps btL w1 w2 → QL F G J B k w2 y := fun k y w1 w2 h kp =>
  ⟨h.f, fun L hL => by obtain ⟨u, q1, q2⟩ := h.g L hL; exact ⟨u, q1, q2.keeps kp⟩, fun L hL => by obtain ⟨u, q1, q2⟩ := h.j L hL; exact ⟨u, q1, q2.keeps kp⟩⟩
theorem qlF {F : Nat → Option Value} {G : Nat → Option LG} {J : Nat → Option (LG × Nat)} {B k : Nat} {w : World} {v : Value} (h1 : F k = some v) (h2 : G k = none) (h3 : J k = none) : QL F G J B k w v :=
  ⟨fun x hx => (by rw [h1] at hx; exact Option.some.inj hx), fun L hL => (by rw [h2] at hL; cases hL), fun L hL => (by rw [h3] at hL; cases hL)⟩
theorem qlG {F : Nat → Option Value} {G : Nat → Option LG} {J : Nat → Option (LG × Nat)} {B k : Nat} {w : World} {u : Nat → S3} {L : LG} (h1 : F k = none) (h2 : G k = some L) (h3 : J k = none) (h : LN w B u L) : QL F G J B k w (.agg (lcells u)) :=
  ⟨fun x hx => (by rw [h1] at hx; cases hx), fun M hM => (by rw [h2] at hM; rw [← Option.some.inj hM]; exact ⟨u, rfl, h⟩), fun M hM => (by rw [h3] at hM; cases hM)⟩
theorem qlJ {F : Nat → Option Value} {G : Nat → Option LG} {J : Nat → Option (LG × Nat)} {B k : Nat} {w : World} {u : Nat → S3} {L : LG} {e : Nat} (h1 : F k = none) (h2 : G k = none) (h3 : J k = some (L, e)) (h : LN w B u L) : QL F G J B k w (.tuple #[.agg (lcells u), .int .i64 (e : Int)]) :=
  ⟨fun x hx => (by rw [h1] at hx; cases hx), fun M hM => (by rw [h2] at hM; cases hM), fun M hM => (by rw [h3] at hM; rw [← Option.some.inj hM]; exact ⟨u, rfl, h⟩)⟩
theorem qlN {F : Nat → Option Value} {G : Nat → Option LG} {J : Nat → Option (LG × Nat)} {B k : Nat} {w : World} {y : Value} (h1 : F k = none) (h2 : G k = none) (h3 : J k = none) : QL F G J B k w y :=
  ⟨fun x hx => (by rw [h1] at hx; cases hx), fun M hM => (by rw [h2] at hM; cases hM), fun M hM => (by rw [h3] at hM; cases hM)⟩
end Go.Proofs.Ytlgljanofppleaa
