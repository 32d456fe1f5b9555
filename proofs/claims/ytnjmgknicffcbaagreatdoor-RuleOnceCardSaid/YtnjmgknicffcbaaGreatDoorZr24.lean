/- Join: its answer (joinR); walks: the document's Join. Owned logs outlive what is stored into boxes; the beginnings of logs, walked; what a region of such calls leaves. Walks: the predicate that unseen hands to DeleteFunc. -/
import Derived.Test.YtnjmgknicffcbaaGreatDoorZr14
import Derived.Test.YtnjmgknicffcbaaGreatDoorZr08
import Derived.Test.YtnjmgknicffcbaaGreatDoorZr10
import Derived.Test.YtnjmgknicffcbaaGreatDoorZr13
import Derived.Test.YtnjmgknicffcbaaGreatDoorZr23
import Derived.Test.YtnjmgknicffcbaaGreatDoorZr07
import Derived.Test.YtnjmgknicffcbaaGreatDoorZr15
namespace Go.Proofs.YtnjmgknicffcbaaGreatDoor
open Go.RowKit Go.Joins
set_option linter.unusedSimpArgs false
set_option linter.unusedVariables false

theorem XV.take {w : World} {A : Option Addr} {n c k : Nat} {L : List TX} (h : XV w (.slice A n c) L) (hk : k ≤ n) : XV w (.slice A k c) (L.take k) := by
  obtain ⟨A', c', hv, h1, h2, h3⟩ := h
  injection hv with e1 e2 e3
  subst e1 e2 e3
  have hl : (L.take k).length = k := by rw [List.length_take]; omega
  refine ⟨A, c, by rw [hl], by omega, h2, fun j hj => ?_⟩
  obtain ⟨b, off, ha, hc⟩ := h3 j (by omega)
  exact ⟨b, off, ha, by rw [List.getElem_take]; exact hc⟩
/-- What Join's rounds leave: of the first k logs the longer one stands in the answer. -/
structure JrR (w : World) (u v : Nat → S3) (a b : LG) (P : Nat) (k : Nat) (us : Nat → S3) (wr : World) : Prop where
  xa : LBox wr w.heap.size u
  xb : LBox wr (w.heap.size + 1) v
  xz : LBox wr (w.heap.size + 1 + 1) Z3
  xo : LBox wr P us
  lv : ∀ j, j < k → us j = if (a j).length < (b j).length then v j else u j
  ok : ∀ j, j < k → sameL ((a j).take (b j).length) ((b j).take (a j).length) = true
  gr : Gr w wr
theorem JrR.next {w wr w' : World} {u v us : Nat → S3} {a b : LG} {P k : Nat} (h : JrR w u v a b P k us wr) (g : Gr wr w') : JrR w u v a b P k us w' :=
  ⟨h.xa.gr g, h.xb.gr g, h.xz.gr g, h.xo.gr g, h.lv, h.ok, h.gr.trans g⟩
theorem JrR.put {w wr : World} {u v us : Nat → S3} {a b : LG} {P k : Nat} (h : JrR w u v a b P k us wr) (hP : w.heap.size + 3 ≤ P) {j : Nat} (hj : k ≤ j) (h8 : j < 8) (A : Option Addr) (n c : Nat) : JrR w u v a b P k (updS us j ⟨A, n, c⟩) (wr.setCell ⟨P, j, none⟩ (.slice A n c)) :=
  ⟨h.xa.far (by simp only []; omega) _, h.xb.far (by simp only []; omega) _, h.xz.far (by simp only []; omega) _, h.xo.set h8 _ _ _, fun i hi => by
    show (if i = j then _ else us i) = _
    rw [if_neg (by omega)]; exact h.lv i hi, h.ok, h.gr.setCell (by show w.heap.size ≤ P; omega) _⟩
theorem JrR.more {w wr : World} {u v us : Nat → S3} {a b : LG} {P k : Nat} (h : JrR w u v a b P k us wr) (e : us k = if (a k).length < (b k).length then v k else u k) (hs : sameL ((a k).take (b k).length) ((b k).take (a k).length) = true) : JrR w u v a b P (k + 1) us wr :=
  ⟨h.xa, h.xb, h.xz, h.xo, fun j hj => by
    by_cases q : j = k
    · rw [q]; exact e
    · exact h.lv j (by omega), fun j hj => by
    by_cases q : j = k
    · rw [q]; exact hs
    · exact h.ok j (by omega), h.gr⟩
theorem JrR.end {w wr : World} {u v us : Nat → S3} {a b : LG} {P : Nat} (h : JrR w u v a b P 8 us wr) (ha : LV w u a) (hb : LV w v b) : LV wr us (jnL a b) := fun i hi => by
  rw [h.lv i hi]
  unfold jnL
  by_cases e : (a i).length < (b i).length
  · rw [if_pos e, if_pos e]; exact (hb i hi).gr h.gr
  · rw [if_neg e, if_neg e]; exact (ha i hi).gr h.gr

end Go.Proofs.YtnjmgknicffcbaaGreatDoor
namespace Go.Proofs.YtnjmgknicffcbaaGreatDoor
open Go.RowKit Go.Joins
set_option linter.unusedSimpArgs false
set_option linter.unusedVariables false

/-- The types of boxes: all but transactions and operations. -/
def btL (t : TypeId) : Bool := !(t == 47 || t == 52)
theorem XN.keeps {w w' : World} {B : Nat} {v : Value} {L : List TX} (h : XN w B v L) (k : Keeps btL w w') : XN w' B v L := by
  obtain ⟨R, h1, h2, h3⟩ := h
  exact ⟨R, h1, own_keeps h2 (by decide) k, fun r hr => own_keeps (h3 r hr) (by decide) k⟩
theorem LN.keeps {w w' : World} {B : Nat} {u : Nat → S3} {l : LG} (h : LN w B u l) (k : Keeps btL w w') : LN w' B u l := fun i hi => (h i hi).keeps k
theorem LN.le {w : World} {B B' : Nat} {u : Nat → S3} {l : LG} (h : LN w B u l) (hb : B' ≤ B) : LN w B' u l := fun i hi => (h i hi).le hb
theorem trs_take (R : List TR) (k : Nat) : (trs R).take (k * 12) = trs (R.take k) := rows_take trcells 12 (fun _ => rfl) R k
theorem XN.take {w : World} {B n c k : Nat} {A : Option Addr} {L : List TX} (h : XN w B (.slice A n c) L) (hk : k ≤ n) : XN w B (.slice A k c) (L.take k) := by
  obtain ⟨R, h1, h2, h3⟩ := h
  have h4 : w.ownsRow B 47 12 (.slice A n c) R.length (trs R) := h2
  obtain ⟨A', c', hv, -, -⟩ := own_form h4
  injection hv with e1 e2 e3
  subst e1 e2 e3
  rcases h4.2 with ⟨hh, h0⟩ | ⟨g, cap, cur, hh, hb, hg, hr⟩
  · injection hh with q1 q2 q3
    subst q1 q3
    obtain rfl : k = 0 := by omega
    exact ⟨[], by simp [texts], World.ownsRow_nil w B _ _, fun r hr => by cases hr⟩
  · injection hh with q1 q2 q3
    subst q1
    have h5 := own_prefix h4 hk
    rw [trs_take] at h5
    refine ⟨R.take k, ?_, ?_, fun r hr => h3 r (List.mem_of_mem_take hr)⟩
    · rw [← h1]; unfold texts; rw [List.map_take]
    · show w.ownsRow B _ 12 _ (R.take k).length _
      rw [List.length_take, Nat.min_eq_left hk]
      exact h5
theorem setCell_keeps {bt : TypeId → Bool} {w : World} {P : Nat} {z : Array Value} {t : TypeId} {fr : Nat × Nat} (h : w.heap[P]? = some (.cells z t fr)) (ht : bt t = true) (i : Nat) (v : Value) : Keeps bt w (w.setCell ⟨P, i, none⟩ v) := putCells_keeps h ht [v] i
/-- Of the first k logs the slices are cut. -/
def cutS (u : Nat → S3) (v : Nat → Nat) (k : Nat) : Nat → S3 := fun j => if j < k then ⟨(u j).a, v j, (u j).c⟩ else u j
theorem cutS_next (u : Nat → S3) (v : Nat → Nat) (k : Nat) : updS (cutS u v k) k ⟨(u k).a, v k, (u k).c⟩ = cutS u v (k + 1) := by
  funext j
  unfold updS cutS
  by_cases e : j = k
  · subst e; rw [if_pos rfl, if_pos (by omega)]
  · rw [if_neg e]
    by_cases q : j < k
    · rw [if_pos q, if_pos (by omega)]
    · rw [if_neg q, if_neg (by omega)]
/-- What the rounds of first leave. -/
structure FstR (w W : World) (v : Nat → Nat) (P B : Nat) (uk : Nat → S3) (l : LG) (k : Nat) (wr : World) : Prop where
  xo : LBox wr P (cutS uk v k)
  xz : LBox wr (w.heap.size + 1 + 1) Z3
  xv : VBox wr (w.heap.size + 1) v
  ln : LN wr B uk l
  gr : Gr W wr
theorem FstR.next {w W : World} {v : Nat → Nat} {P B : Nat} {uk : Nat → S3} {l : LG} {k : Nat} {wr w' : World} (h : FstR w W v P B uk l k wr) (g : Gr wr w') : FstR w W v P B uk l k w' :=
  ⟨h.xo.gr g, h.xz.gr g, h.xv.gr g, h.ln.keeps (Keeps.of_gr g), h.gr.trans g⟩
theorem FstR.more {w W : World} {v : Nat → Nat} {P B : Nat} {uk : Nat → S3} {l : LG} {k : Nat} {wr : World} (h : FstR w W v P B uk l k wr) (hP : w.heap.size + 3 ≤ P) (hW : W.heap.size = w.heap.size + 3) (hk : k < 8) : FstR w W v P B uk l (k + 1) (wr.setCell ⟨P, k, none⟩ (.slice (uk k).a (v k) (uk k).c)) :=
  ⟨by rw [← cutS_next]; exact h.xo.set hk _ _ _, h.xz.far (by simp only []; omega) _, h.xv.far (by simp only []; omega) _, h.ln.keeps (setCell_keeps h.xo.box (by decide) _ _), h.gr.setCell (by rw [hW]; simp only []; omega) _⟩
/-- The values of a region of such calls: plain ones, owned logs, owned logs beside an error's number. -/
structure QL (F : Nat → Option Value) (G : Nat → Option LG) (J : Nat → Option (LG × Nat)) (B : Nat) (k : Nat) (w : World) (y : Value) : Prop where
  f : ∀ v, F k = some v → y = v
  g : ∀ L, G k = some L → ∃ u, y = .agg (lcells u) ∧ LN w B u L
  j : ∀ L, J k = some L → ∃ u, y = .tuple #[.agg (lcells u), .int .i64 (L.2 : Int)] ∧ LN w B u L.1
theorem QL.st {F : Nat → Option Value} {G : Nat → Option LG} {J : Nat → Option (LG × Nat)} {B : Nat} : ∀ k y w1 w2, QL F G J B k w1 y → Keeps btL w1 w2 → QL F G J B k w2 y := fun k y w1 w2 h kp =>
  ⟨h.f, fun L hL => by obtain ⟨u, q1, q2⟩ := h.g L hL; exact ⟨u, q1, q2.keeps kp⟩, fun L hL => by obtain ⟨u, q1, q2⟩ := h.j L hL; exact ⟨u, q1, q2.keeps kp⟩⟩
theorem qlF {F : Nat → Option Value} {G : Nat → Option LG} {J : Nat → Option (LG × Nat)} {B k : Nat} {w : World} {v : Value} (h1 : F k = some v) (h2 : G k = none) (h3 : J k = none) : QL F G J B k w v :=
  ⟨fun x hx => (by rw [h1] at hx; exact Option.some.inj hx), fun L hL => (by rw [h2] at hL; cases hL), fun L hL => (by rw [h3] at hL; cases hL)⟩
theorem qlN {F : Nat → Option Value} {G : Nat → Option LG} {J : Nat → Option (LG × Nat)} {B k : Nat} {w : World} {y : Value} (h1 : F k = none) (h2 : G k = none) (h3 : J k = none) : QL F G J B k w y :=
  ⟨fun x hx => (by rw [h1] at hx; cases hx), fun M hM => (by rw [h2] at hM; cases hM), fun M hM => (by rw [h3] at hM; cases hM)⟩
end Go.Proofs.YtnjmgknicffcbaaGreatDoor
namespace Go.Proofs.YtnjmgknicffcbaaGreatDoor
open Go.RowKit Go.Joins
set_option linter.unusedSimpArgs false
set_option linter.unusedVariables false

/-- Whether a deed is seen: by what is counted of what it is about, or within its own transaction. -/
def unsD (F : ByteArray → Nat → Nat) (k : Int) (d : DD) : Bool := hasB (F (aboutT d.op)) d.t.origin d.t.seq || withinD k d
/-- A transaction's member and number lie at this place. -/
def HD (w : World) (b o : Nat) (t : TX) : Prop := w.cell? ⟨b, o, none⟩ = some (.int .i64 t.origin) ∧ w.cell? ⟨b, o + 1, none⟩ = some (.int .u64 (t.seq : Int))
theorem HD.gr {w w' : World} {b o : Nat} {t : TX} (h : HD w b o t) (g : Gr w w') : HD w' b o t := ⟨g.cell h.1, g.cell h.2⟩
theorem XCell.hcD {w : World} {b o : Nat} {t : TX} (h : XCell w b o t) : HD w b o t := by
  obtain ⟨v, -, x0, x1, -⟩ := h
  exact ⟨x0, x1⟩
def FU (bm : Nat) (dv o : Array Value) (s : ByteArray) (cv : Nat → Nat) : Nat → Option Value
  | 0 => some (.map (some bm))
  | 1 => some (.agg dv)
  | 2 => some (.agg o)
  | 3 => some (.string s)
  | 4 => some (.agg (vcells cv))
  | 5 => some (.agg (vcells cv))
  | _ => none
theorem ddbox (w : World) (d : DD) : ∃ W, W = w.alloc (.cells #[.pointer (some ⟨d.b, d.o, none⟩), .int .i64 (d.i : Int)] 225) ∧ Gr w W ∧ W.cell? ⟨w.heap.size, 0, none⟩ = some (.pointer (some ⟨d.b, d.o, none⟩)) ∧ W.cell? ⟨w.heap.size, 1, none⟩ = some (.int .i64 (d.i : Int)) := by
  refine ⟨_, rfl, (Gr.refl w).alloc _, ?_, ?_⟩
  · rw [World.cell?_alloc_at _ _ _ _ rfl]; rfl
  · rw [World.cell?_alloc_at _ _ _ _ rfl]; rfl
set_option maxRecDepth 100000 in
set_option maxHeartbeats 4000000 in
theorem unseen1_any (d : DD) (pa pb bm n : Nat) (F : ByteArray → Nat → Nat) (k : Int) (w : World) (h : DX w d) (hm : SeenM w bm n F) (ha : w.cell? ⟨pa, 0, none⟩ = some (.map (some bm))) (hb : w.cell? ⟨pb, 0, none⟩ = some (.int .i64 k)) (hs : (aboutT d.op).size ≤ maxLen) :
    Calls Tryz.prog 205 #[.agg #[.pointer (some ⟨d.b, d.o, none⟩), .int .i64 (d.i : Int)], .pointer (some ⟨pa, 0, none⟩), .pointer (some ⟨pb, 0, none⟩)] w fun e w' => e = .returned (.bool (unsD F k d)) ∧ Gr w w' := by
  obtain ⟨q, hq⟩ : ∃ q, q = unsD F k d := ⟨_, rfl⟩
  rw [← hq]
  obtain ⟨s, hse⟩ : ∃ s, s = aboutT d.op := ⟨_, rfl⟩
  rw [← hse] at hs
  obtain ⟨cv, hcv⟩ : ∃ c, c = F s := ⟨_, rfl⟩
  obtain ⟨q1, hq1⟩ : ∃ q, q = hasB cv d.t.origin d.t.seq := ⟨_, rfl⟩
  obtain ⟨q2, hq2⟩ : ∃ q, q = withinD k d := ⟨_, rfl⟩
  have HQ : Hid (q = (q1 || q2)) := Lib.hid (by rw [hq, hq1, hq2, hcv, hse]; rfl)
  obtain ⟨W, hW, hg, a0, a1⟩ := ddbox w d
  have HG := Lib.hid hg
  have HA := Lib.hid (And.intro a0 a1)
  have HOP := Lib.hid (fun w1 (g : Gr W w1) => dop_any d w1 ((h.gr hg).gr g))
  have HAB := Lib.hid (fun w1 => about_any d.op w1)
  rw [← hse] at HAB
  have HWI := Lib.hid (fun w1 (g : Gr W w1) => within_any d k w1 ((h.gr hg).gr g))
  rw [← hq2] at HWI
  have HHS := Lib.hid (fun w1 => has_any cv d.t.origin d.t.seq w1)
  rw [← hq1] at HHS
  have HLK := Lib.hid (fun w1 (g : Gr W w1) => SeenM.lookup ((hm.gr hg).gr g) s hs)
  rw [← hcv] at HLK
  have HPA := Lib.hid (hg.cell ha)
  have HPB := Lib.hid (hg.cell hb)
  obtain ⟨o, ho⟩ : ∃ o, o = d.op := ⟨_, rfl⟩
  rw [← ho] at HOP HAB
  have HX := Lib.hid ((h.gr hg).1.hcD)
  have hfd : ∀ w, (Instr.field 234 (.agg (vcells cv)) 0).run Tryz.prog w = .ok (.agg (vcells cv)) w := fun w => by show _ = _; kernel_rfl
  clear h hm ha hb hs hq hse hcv hq1 hq2 hg a0 a1 ho
  go_enter Tryz.func205, Tryz.ntmps205
  go_upto_region 1 with (fail)
  rw [← hW]
  clear hW
  refine wp_region_noPanic ?_
  refine iRegionA (RI btL W (QL (FU bm #[.pointer (some ⟨d.b, d.o, none⟩), .int .i64 (d.i : Int)] (opv o) s cv) (fun _ => none) (fun _ => none) W.heap.size) [(6, 7, 5)] (fun _ => 28) (fun _ => V0)) (by kernel_rfl) (by kernel_rfl) (ri_start QL.st (Gr.refl _)) ?_ ?_
  · intro i o ho vals wc A hI hn hdep hOld hNew
    have hi : i < 8 := (List.getElem?_eq_some_iff.1 ho).1
    obtain ⟨a0, a1⟩ : wc.cell? ⟨w.heap.size, 0, none⟩ = some (.pointer (some ⟨d.b, d.o, none⟩)) ∧ wc.cell? ⟨w.heap.size, 1, none⟩ = some (.int .i64 (d.i : Int)) := ⟨hI.gr.cell HA.out.1, hI.gr.cell HA.out.2⟩
    have pa0 := hI.gr.cell HPA.out
    have eo1 : A.tmps[1]?.getD undef = .pointer (some ⟨pa, 0, none⟩) := slotE (hOld 1 (by kernel_rfl))
    have eo3 : A.tmps[3]?.getD undef = .pointer (some ⟨w.heap.size, 0, none⟩) := slotE (hOld 3 (by kernel_rfl))
    obtain rfl | rfl | rfl | rfl | rfl | rfl | rfl | rfl : i = 0 ∨ i = 1 ∨ i = 2 ∨ i = 3 ∨ i = 4 ∨ i = 5 ∨ i = 6 ∨ i = 7 := by omega
    · obtain rfl := Option.some.inj (show some _ = some o from ho)
      refine aVal rfl rfl (v := .map (some bm)) (w' := wc) ?_ ⟨_, rfl, hI.val hn (by decide) (qlF rfl rfl rfl)⟩
      go_simp
    · obtain rfl := Option.some.inj (show some _ = some o from ho)
      refine aVal rfl rfl (v := .agg #[.pointer (some ⟨d.b, d.o, none⟩), .int .i64 (d.i : Int)]) (w' := wc) ?_ ⟨_, rfl, hI.val hn (by decide) (qlF rfl rfl rfl)⟩
      go_simp
    · obtain rfl := Option.some.inj (show some _ = some o from ho)
      obtain ⟨y1, hy1⟩ := hdep ⟨1, .data⟩ (by simp) rfl
      have s1 := slotE (hNew 1 7 _ y1 rfl rfl (by kernel_rfl) hy1)
      rw [(hI.ok 1 y1 hy1).f _ rfl] at s1
      refine aCall rfl rfl (w1 := wc) ?_ ((HOP.out wc hI.gr).mono fun e w' ⟨he, hg⟩ => ⟨_, he, _, rfl, (hI.next hg).val hn (by decide) (qlF rfl rfl rfl)⟩)
      go_simp
    · obtain rfl := Option.some.inj (show some _ = some o from ho)
      obtain ⟨y2, hy2⟩ := hdep ⟨2, .data⟩ (by simp) rfl
      have s2 := slotE (hNew 2 8 _ y2 rfl rfl (by kernel_rfl) hy2)
      rw [(hI.ok 2 y2 hy2).f _ rfl] at s2
      refine aCall rfl rfl (w1 := wc) ?_ ((HAB.out wc).mono fun e w' ⟨he, hg⟩ => ⟨_, he, _, rfl, (hI.next hg).val hn (by decide) (qlF rfl rfl rfl)⟩)
      go_simp
    · obtain rfl := Option.some.inj (show some _ = some o from ho)
      obtain ⟨y0, hy0⟩ := hdep ⟨0, .data⟩ (by simp) rfl
      have s0 := slotE (hNew 0 6 _ y0 rfl rfl (by kernel_rfl) hy0)
      rw [(hI.ok 0 y0 hy0).f _ rfl] at s0
      obtain ⟨y3, hy3⟩ := hdep ⟨3, .data⟩ (by simp) rfl
      have s3 := slotE (hNew 3 9 _ y3 rfl rfl (by kernel_rfl) hy3)
      rw [(hI.ok 3 y3 hy3).f _ rfl] at s3
      have hlk := HLK.out wc hI.gr
      refine aVal rfl rfl (v := .agg (vcells cv)) (w' := wc) ?_ ⟨_, rfl, hI.val hn (by decide) (qlF rfl rfl rfl)⟩
      go_simp
    · obtain rfl := Option.some.inj (show some _ = some o from ho)
      obtain ⟨y4, hy4⟩ := hdep ⟨4, .data⟩ (by simp) rfl
      have s4 := slotE (hNew 4 10 _ y4 rfl rfl (by kernel_rfl) hy4)
      rw [(hI.ok 4 y4 hy4).f _ rfl] at s4
      refine aVal rfl rfl (v := .agg (vcells cv)) (w' := wc) ?_ ⟨_, rfl, hI.val hn (by decide) (qlF rfl rfl rfl)⟩
      go_simp
    · obtain rfl := Option.some.inj (show some _ = some o from ho)
      refine aVal rfl rfl (v := .pointer (some ⟨wc.heap.size, 0, none⟩)) (w' := wc.alloc (.cells (V0) 28)) ?_ ⟨_, rfl, hI.new hn (by decide) rfl rfl (fun _ _ => qlN rfl rfl rfl)⟩
      go_simp
    · obtain rfl := Option.some.inj (show some _ = some o from ho)
      obtain ⟨y6, hy6⟩ := hdep ⟨6, .data⟩ (by simp) rfl
      obtain ⟨P, rfl, hP1, hP2⟩ := hI.at_new (a := 6) (k := 7) (s := 5) (by decide) hn hy6
      have s6 := slotE (hNew 6 5 _ _ rfl rfl (by kernel_rfl) hy6)
      obtain ⟨y5, hy5⟩ := hdep ⟨5, .data⟩ (by simp) rfl
      have s5 := slotE (hNew 5 11 _ y5 rfl rfl (by kernel_rfl) hy5)
      have q5 := (hI.ok 5 y5 hy5).f _ rfl
      subst q5
      have hz : VBox wc P (fun _ => 0) := ⟨hP2⟩
      obtain ⟨c0, c1, c2, c3, c4, c5, c6, c7⟩ := hz.zero
      obtain ⟨f0, f1, f2, f3, f4, f5, f6, f7⟩ := hz.fz
      refine aSkip rfl rfl (w' := putCells wc P 0 (vcells cv).toList) ?_ ⟨_, rfl, hI.putA (a := 6) (k := 7) (s := 5) (c := vcells cv) (by decide) hn (by decide) (by decide) (by decide) hy6 hy5 rfl (fun _ => qlN rfl rfl rfl)⟩
      clear hz hI
      go_simp
      rfl
  · intro vals wc hall hI
    refine NoPanic.normal ?_
    obtain ⟨y0, h0⟩ := hall 0 (by decide)
    obtain ⟨y1, h1⟩ := hall 1 (by decide)
    obtain ⟨y2, h2⟩ := hall 2 (by decide)
    obtain ⟨y3, h3⟩ := hall 3 (by decide)
    obtain ⟨y4, h4⟩ := hall 4 (by decide)
    obtain ⟨y5, h5⟩ := hall 5 (by decide)
    obtain ⟨y6, h6⟩ := hall 6 (by decide)
    obtain ⟨y7, h7⟩ := hall 7 (by decide)
    obtain ⟨P5, rfl, hpl, hbP⟩ := hI.at_full (a := 6) (k := 7) (s := 5) (by decide) h7 h5 h6
    obtain rfl := (hI.ok 5 y5 h5).f _ rfl
    have HB5 : Hid (VBox wc P5 cv) := Lib.hid ⟨hbP⟩
    have HG1 := Lib.hid hI.gr
    clear hbP hpl
    simp only [putAll, putV, h0, h1, h2, h3, h4, h5, h6, h7]
    clear hI hall h0 h1 h2 h3 h4 h5 h6 h7
    simp only [Act.put, List.setIfInBounds_toArray, List.set_cons_zero, List.set_cons_succ]
    have HV1 := Lib.hid HB5.out.vc
    have HA1 : Hid (wc.cell? ⟨w.heap.size, 0, none⟩ = some (.pointer (some ⟨d.b, d.o, none⟩)) ∧ wc.cell? ⟨w.heap.size, 1, none⟩ = some (.int .i64 (d.i : Int))) := Lib.hid ⟨HG1.out.cell HA.out.1, HG1.out.cell HA.out.2⟩
    have HX1 := Lib.hid (HX.out.gr HG1.out)
    have HP1 := Lib.hid (HG1.out.cell HPB.out)
    clear HA HX HPA HPB HLK HOP HAB HB5
    go_upto_region 2 with (fail)
    rcases q1 with _ | _
    ·
      refine qRegion (fun w' => VC w' P5 cv ∧ w'.cell? ⟨w.heap.size, 0, none⟩ = some (.pointer (some ⟨d.b, d.o, none⟩)) ∧ w'.cell? ⟨w.heap.size, 1, none⟩ = some (.int .i64 (d.i : Int)) ∧ HD w' d.b d.o d.t ∧ w'.cell? ⟨pb, 0, none⟩ = some (.int .i64 k) ∧ Gr W w') (by kernel_rfl) (by kernel_rfl) ⟨HV1.out.gr (Gr.refl _).drew, (Gr.refl _).drew.cell HA1.out.1, (Gr.refl _).drew.cell HA1.out.2, HX1.out.gr (Gr.refl _).drew, (Gr.refl _).drew.cell HP1.out, HG1.out.drew⟩ ?_
      iterate 11
        refine qTake (by kernel_rfl) ?_
        apply Exists.intro
        refine ⟨fun wq hq => ?_, ?_⟩
        · go_light
          obtain ⟨⟨v0, v1, v2, v3, v4, v5, v6, v7⟩, a0, a1, ⟨x0, x1⟩, b0, -⟩ := hq
          go_simp
          try with_reducible rfl
          done
        try simp only [Act.put, List.setIfInBounds_toArray, List.set_cons_zero, List.set_cons_succ]
      refine qCall (by kernel_rfl) ?_
      apply Exists.intro
      refine ⟨?_, ?_⟩
      · apply Exists.intro
        apply Exists.intro
        refine ⟨fun wq => ?_, fun wq hq => ?_⟩
        · go_light
          go_simp
          exact ⟨rfl, rfl⟩
        · exact (HHS.out wq).mono fun e w'' ⟨he, hg⟩ => ⟨he, hq.1.gr hg, hg.cell hq.2.1, hg.cell hq.2.2.1, hq.2.2.2.1.gr hg, hg.cell hq.2.2.2.2.1, hq.2.2.2.2.2.trans hg⟩
      try simp only [Act.put, List.setIfInBounds_toArray, List.set_cons_zero, List.set_cons_succ]
      iterate 3
        refine qTake (by kernel_rfl) ?_
        apply Exists.intro
        refine ⟨fun wq hq => ?_, ?_⟩
        · go_light
          obtain ⟨⟨v0, v1, v2, v3, v4, v5, v6, v7⟩, a0, a1, ⟨x0, x1⟩, b0, -⟩ := hq
          go_simp
          try with_reducible rfl
          done
        try simp only [Act.put, List.setIfInBounds_toArray, List.set_cons_zero, List.set_cons_succ]
      refine qCall (by kernel_rfl) ?_
      apply Exists.intro
      refine ⟨?_, ?_⟩
      · apply Exists.intro
        apply Exists.intro
        refine ⟨fun wq => ?_, fun wq hq => ?_⟩
        · go_light
          go_simp
          exact ⟨rfl, rfl⟩
        · exact (HWI.out wq hq.2.2.2.2.2).mono fun e w'' ⟨he, hg⟩ => ⟨he, hq.1.gr hg, hg.cell hq.2.1, hg.cell hq.2.2.1, hq.2.2.2.1.gr hg, hg.cell hq.2.2.2.2.1, hq.2.2.2.2.2.trans hg⟩
      try simp only [Act.put, List.setIfInBounds_toArray, List.set_cons_zero, List.set_cons_succ]
      iterate 2
        refine qTake (by kernel_rfl) ?_
        apply Exists.intro
        refine ⟨fun wq hq => ?_, ?_⟩
        · go_light
          obtain ⟨⟨v0, v1, v2, v3, v4, v5, v6, v7⟩, a0, a1, ⟨x0, x1⟩, b0, -⟩ := hq
          go_simp
          try with_reducible rfl
          done
        try simp only [Act.put, List.setIfInBounds_toArray, List.set_cons_zero, List.set_cons_succ]
      refine qNil ?_
      rintro w3 ⟨-, -, -, -, -, hg3⟩
      have HG3 := Lib.hid (HG.out.trans hg3)
      clear hg3
      go_wp2_with fail
      go_ret
      exact ⟨by rw [HQ.out]; rfl, HG3.out⟩
    ·
      refine qRegion (fun w' => VC w' P5 cv ∧ w'.cell? ⟨w.heap.size, 0, none⟩ = some (.pointer (some ⟨d.b, d.o, none⟩)) ∧ w'.cell? ⟨w.heap.size, 1, none⟩ = some (.int .i64 (d.i : Int)) ∧ HD w' d.b d.o d.t ∧ w'.cell? ⟨pb, 0, none⟩ = some (.int .i64 k) ∧ Gr W w') (by kernel_rfl) (by kernel_rfl) ⟨HV1.out.gr (Gr.refl _).drew, (Gr.refl _).drew.cell HA1.out.1, (Gr.refl _).drew.cell HA1.out.2, HX1.out.gr (Gr.refl _).drew, (Gr.refl _).drew.cell HP1.out, HG1.out.drew⟩ ?_
      iterate 11
        refine qTake (by kernel_rfl) ?_
        apply Exists.intro
        refine ⟨fun wq hq => ?_, ?_⟩
        · go_light
          obtain ⟨⟨v0, v1, v2, v3, v4, v5, v6, v7⟩, a0, a1, ⟨x0, x1⟩, b0, -⟩ := hq
          go_simp
          try with_reducible rfl
          done
        try simp only [Act.put, List.setIfInBounds_toArray, List.set_cons_zero, List.set_cons_succ]
      refine qCall (by kernel_rfl) ?_
      apply Exists.intro
      refine ⟨?_, ?_⟩
      · apply Exists.intro
        apply Exists.intro
        refine ⟨fun wq => ?_, fun wq hq => ?_⟩
        · go_light
          go_simp
          exact ⟨rfl, rfl⟩
        · exact (HHS.out wq).mono fun e w'' ⟨he, hg⟩ => ⟨he, hq.1.gr hg, hg.cell hq.2.1, hg.cell hq.2.2.1, hq.2.2.2.1.gr hg, hg.cell hq.2.2.2.2.1, hq.2.2.2.2.2.trans hg⟩
      try simp only [Act.put, List.setIfInBounds_toArray, List.set_cons_zero, List.set_cons_succ]
      iterate 1
        refine qTake (by kernel_rfl) ?_
        apply Exists.intro
        refine ⟨fun wq hq => ?_, ?_⟩
        · go_light
          obtain ⟨⟨v0, v1, v2, v3, v4, v5, v6, v7⟩, a0, a1, ⟨x0, x1⟩, b0, -⟩ := hq
          go_simp
          try with_reducible rfl
          done
        try simp only [Act.put, List.setIfInBounds_toArray, List.set_cons_zero, List.set_cons_succ]
      iterate 3
        refine qSkip (by kernel_rfl) ?_
        try simp only [Act.put, List.setIfInBounds_toArray, List.set_cons_zero, List.set_cons_succ]
      iterate 2
        refine qTake (by kernel_rfl) ?_
        apply Exists.intro
        refine ⟨fun wq hq => ?_, ?_⟩
        · go_light
          obtain ⟨⟨v0, v1, v2, v3, v4, v5, v6, v7⟩, a0, a1, ⟨x0, x1⟩, b0, -⟩ := hq
          go_simp
          try with_reducible rfl
          done
        try simp only [Act.put, List.setIfInBounds_toArray, List.set_cons_zero, List.set_cons_succ]
      refine qNil ?_
      rintro w3 ⟨-, -, -, -, -, hg3⟩
      have HG3 := Lib.hid (HG.out.trans hg3)
      clear hg3
      go_wp2_with fail
      go_ret
      exact ⟨by rw [HQ.out]; rfl, HG3.out⟩
end Go.Proofs.YtnjmgknicffcbaaGreatDoor
