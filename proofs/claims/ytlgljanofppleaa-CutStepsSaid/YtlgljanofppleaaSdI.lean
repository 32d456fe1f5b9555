/- Mathematics of Steps: logs come out again, added one by one. -/
import Derived.Test.YtlgljanofppleaaSdF
import Derived.Test.YtlgljanofppleaaCutG
import Derived.Test.YtlgljanofppleaaCutP
import Derived.Test.YtlgljanofppleaaCutO
import Derived.Test.YtlgljanofppleaaCutS
import Derived.Test.YtlgljanofppleaaCutZD
namespace Go.Proofs.Ytlgljanofppleaa
set_option linter.unusedSimpArgs false
set_option linter.unusedVariables false

theorem cntQ_leS {l : LG} {Q : List (TX × Nat × Nat)} (ok : OkL l) (hq : OrdQ l (sizeV l) Q) {j : Nat} (hj : j ≤ Q.length) : leqB (cntQ Q j) (sizeV l) = true :=
  lq_of fun i hi => by
    have h1 := cntQ_mono (Q := Q) (j := i) hj
    rw [cntQ_all ok hq (lq_refl _) hi] at h1
    exact h1
theorem pre_next {l : LG} {c : Nat → Nat} {m : Nat} {t : TX} (h : (l m)[c m]? = some t) : addL (pre l c) m t = pre l (upd c m (c m + 1)) := by
  funext j
  unfold addL pre
  by_cases e : j = m
  · subst e
    rw [if_pos rfl]
    have e2 : upd c j (c j + 1) j = c j + 1 := by unfold upd; rw [if_pos rfl]
    rw [e2, List.take_add_one, h]
    rfl
  · rw [if_neg e]
    have e2 : upd c m (c m + 1) j = c j := by unfold upd; rw [if_neg e]
    rw [e2]
/-- A transaction in the order is added: the logs' beginning grows by it; and added again, nothing changes. -/
theorem steps_add {l : LG} {Q : List (TX × Nat × Nat)} (ok : OkL l) (hq : OrdQ l (sizeV l) Q) {j m k : Nat} {t : TX} (hj : Q[j]? = some (t, m, k)) :
    addR (pre l (cntQ Q j)) t = (0, pre l (cntQ Q (j + 1))) ∧ addR (pre l (cntQ Q (j + 1))) t = (0, pre l (cntQ Q (j + 1))) := by
  have hjl : j < Q.length := (List.getElem?_eq_some_iff.1 hj).1
  obtain ⟨m', k', t', hm, hkc, hlt, hpe⟩ := (ordQ_mem hq (lq_refl _)).1 (List.mem_of_getElem? hj)
  injection hpe with e1 e2
  injection e2 with e2 e3
  subst e1 e2 e3
  obtain ⟨hot, hor, hsq, hle, hst⟩ := ok.tx m k t hm hlt
  have hk : k = cntQ Q j m := cntQ_at ok hq (lq_refl _) hj
  have hd : leqB t.deps (cntQ Q j) = true := cntQ_deps ok hq (okL_closed ok) hj
  have hcl := cntQ_leS ok hq (j := j) (by omega)
  have hcl1 := cntQ_leS ok hq (j := j + 1) (by omega)
  have ho : t.origin.toNat = m := by rw [hor]; rfl
  have hn : cntQ Q (j + 1) = upd (cntQ Q j) m (cntQ Q j m + 1) := cntQ_next hj
  have hlen : (pre l (cntQ Q j) m).length = k := by rw [pre_size hcl hm, ← hk]
  have hlen1 : (pre l (cntQ Q (j + 1)) m).length = k + 1 := by
    rw [pre_size hcl1 hm, hn]
    unfold upd
    rw [if_pos rfl, ← hk]
  have hkl := (List.getElem?_eq_some_iff.1 hlt).1
  have hll := ok.len m hm
  refine ⟨?_, ?_⟩
  · unfold addR
    rw [if_pos hot, ho, hlen, if_neg (by omega)]
    have hb : behindE (pre l (cntQ Q j)) t = 0 := by
      unfold behindE
      rw [if_pos (lq_of fun i hi => by show t.deps i ≤ (pre l (cntQ Q j) i).length; rw [pre_size hcl hi]; exact lq hd hi), if_neg]
      have e : stampV (pre l (cntQ Q j)) t.deps = stampV l t.deps := stampV_of (v := t.deps) fun i a hi ha => pre_at (Nat.lt_of_lt_of_le ha (lq hd hi))
      omega
    rw [if_pos hb, if_pos (by omega), pre_next (by rw [← hk]; exact hlt), hn]
  · unfold addR
    rw [if_pos hot, ho, hlen1, if_pos (by omega)]
    have hg : (pre l (cntQ Q (j + 1)) m)[t.seq - 1]? = some t := by
      rw [hsq, show k + 1 - 1 = k by omega, pre_at (by rw [hn]; unfold upd; rw [if_pos rfl, ← hk]; omega)]
      exact hlt
    rw [hg]
    show (if sameT t t = true then _ else _) = _
    rw [if_pos (sameT_self t)]
theorem pre_zero (l : LG) (Q : List (TX × Nat × Nat)) : pre l (cntQ Q 0) = nilL := by
  funext i
  show (l i).take (cntQ Q 0 i) = []
  rw [cntQ_zero, List.take_zero]
/-- At the end all has come. -/
theorem steps_all {l : LG} {Q : List (TX × Nat × Nat)} (ok : OkL l) (hq : OrdQ l (sizeV l) Q) : sameLG (pre l (cntQ Q Q.length)) l = true := sameLG_of fun i hi => by
  show (l i).take _ = _
  rw [cntQ_all ok hq (lq_refl _) hi]
  exact List.take_length
theorem fitC_pre {l : LG} (h : FitC l) (c : Nat → Nat) : FitC (pre l c) := ⟨fun i hi => by
  have h1 := h.len i hi
  have h2 : (Go.Proofs.Ytlgljanofppleaa.pre l c i).length ≤ (l i).length := by
    show ((l i).take (c i)).length ≤ _
    rw [List.length_take]; omega
  omega, fun i t hi ht => h.tx i t hi (List.mem_of_mem_take ht)⟩
theorem add_ok (u : Nat → S3) (l J : LG) (t : TX) (v : Value) (w : World) (hj : addR l t = (0, J)) (h : LV w u l) (hf : FitC l) (hv : TOV w v t.ops) (hq : t.seq < 18446744073709551616) (ht : t.ops.length * 48 ≤ 140737488355328 ∧ ∀ o ∈ t.ops, o.key.size ≤ 281474976710656 ∧ o.elem.size ≤ 281474976710656) :
    Calls Try.prog 26 #[.agg (lcells u), .agg (tcs t v)] w fun e w' => ∃ u', e = .returned (.tuple #[.agg (lcells u'), .int .i64 0]) ∧ LN w' w.heap.size u' J ∧ Gr w w' :=
  (add_any u l t v w h hf hv hq ht).mono fun e w' ⟨u', he, hl, hg⟩ => by
    rw [hj] at he hl
    exact ⟨u', he, hl, hg⟩
end Go.Proofs.Ytlgljanofppleaa
/-! The law CutSteps. -/
namespace Go.Proofs.Ytlgljanofppleaa
open Go.RowKit Go.Joins
set_option linter.unusedSimpArgs false
set_option linter.unusedVariables false

/-- The values of a region: as QL, with owned transactions and slices of a length. -/
structure QP (F : Nat → Option Value) (G : Nat → Option LG) (J : Nat → Option (LG × Nat)) (K : Nat → Option TX) (S : Nat → Option Nat) (B : Nat) (k : Nat) (w : World) (y : Value) : Prop where
  f : ∀ v, F k = some v → y = v
  g : ∀ L, G k = some L → ∃ u, y = .agg (lcells u) ∧ LN w B u L
  j : ∀ L, J k = some L → ∃ u, y = .tuple #[.agg (lcells u), .int .i64 (L.2 : Int)] ∧ LN w B u L.1
  kk : ∀ t, K k = some t → ∃ v, y = .agg (tcs t v) ∧ TOO w B v t.ops
  ss : ∀ n, S k = some n → ∃ A c, y = .slice A n c
section
variable {F : Nat → Option Value} {G : Nat → Option LG} {J : Nat → Option (LG × Nat)} {K : Nat → Option TX} {S : Nat → Option Nat} {B : Nat}
theorem QP.st : ∀ k y w1 w2, QP F G J K S B k w1 y → Keeps btL w1 w2 → QP F G J K S B k w2 y := fun k y w1 w2 h kp =>
  ⟨h.f, fun L hL => by obtain ⟨u, q1, q2⟩ := h.g L hL; exact ⟨u, q1, q2.keeps kp⟩, fun L hL => by obtain ⟨u, q1, q2⟩ := h.j L hL; exact ⟨u, q1, q2.keeps kp⟩, fun t ht => by obtain ⟨v, q1, q2⟩ := h.kk t ht; exact ⟨v, q1, own_keeps q2 (by decide) kp⟩, h.ss⟩
theorem qpF {k : Nat} {w : World} {v : Value} (h1 : F k = some v) (h2 : G k = none) (h3 : J k = none) (h4 : K k = none) (h5 : S k = none) : QP F G J K S B k w v :=
  ⟨fun x hx => (by rw [h1] at hx; exact Option.some.inj hx), fun L hL => (by rw [h2] at hL; cases hL), fun L hL => (by rw [h3] at hL; cases hL), fun L hL => (by rw [h4] at hL; cases hL), fun L hL => (by rw [h5] at hL; cases hL)⟩
theorem qpG {k : Nat} {w : World} {u : Nat → S3} {L : LG} (h1 : F k = none) (h2 : G k = some L) (h3 : J k = none) (h4 : K k = none) (h5 : S k = none) (h : LN w B u L) : QP F G J K S B k w (.agg (lcells u)) :=
  ⟨fun x hx => (by rw [h1] at hx; cases hx), fun M hM => (by rw [h2] at hM; rw [← Option.some.inj hM]; exact ⟨u, rfl, h⟩), fun M hM => (by rw [h3] at hM; cases hM), fun M hM => (by rw [h4] at hM; cases hM), fun M hM => (by rw [h5] at hM; cases hM)⟩
theorem qpJ {k : Nat} {w : World} {u : Nat → S3} {L : LG} {e : Nat} (h1 : F k = none) (h2 : G k = none) (h3 : J k = some (L, e)) (h4 : K k = none) (h5 : S k = none) (h : LN w B u L) : QP F G J K S B k w (.tuple #[.agg (lcells u), .int .i64 (e : Int)]) :=
  ⟨fun x hx => (by rw [h1] at hx; cases hx), fun M hM => (by rw [h2] at hM; cases hM), fun M hM => (by rw [h3] at hM; rw [← Option.some.inj hM]; exact ⟨u, rfl, h⟩), fun M hM => (by rw [h4] at hM; cases hM), fun M hM => (by rw [h5] at hM; cases hM)⟩
theorem qpK {k : Nat} {w : World} {v : Value} {t : TX} (h1 : F k = none) (h2 : G k = none) (h3 : J k = none) (h4 : K k = some t) (h5 : S k = none) (h : TOO w B v t.ops) : QP F G J K S B k w (.agg (tcs t v)) :=
  ⟨fun x hx => (by rw [h1] at hx; cases hx), fun M hM => (by rw [h2] at hM; cases hM), fun M hM => (by rw [h3] at hM; cases hM), fun M hM => (by rw [h4] at hM; rw [← Option.some.inj hM]; exact ⟨v, rfl, h⟩), fun M hM => (by rw [h5] at hM; cases hM)⟩
theorem qpS {k : Nat} {w : World} {A : Option Addr} {n c : Nat} (h1 : F k = none) (h2 : G k = none) (h3 : J k = none) (h4 : K k = none) (h5 : S k = some n) : QP F G J K S B k w (.slice A n c) :=
  ⟨fun x hx => (by rw [h1] at hx; cases hx), fun M hM => (by rw [h2] at hM; cases hM), fun M hM => (by rw [h3] at hM; cases hM), fun M hM => (by rw [h4] at hM; cases hM), fun M hM => (by rw [h5] at hM; rw [← Option.some.inj hM]; exact ⟨A, c, rfl⟩)⟩
theorem qpN {k : Nat} {w : World} {y : Value} (h1 : F k = none) (h2 : G k = none) (h3 : J k = none) (h4 : K k = none) (h5 : S k = none) : QP F G J K S B k w y :=
  ⟨fun x hx => (by rw [h1] at hx; cases hx), fun M hM => (by rw [h2] at hM; cases hM), fun M hM => (by rw [h3] at hM; cases hM), fun M hM => (by rw [h4] at hM; cases hM), fun M hM => (by rw [h5] at hM; cases hM)⟩
end
theorem mt_selfS (v : Nat → Nat) : mt v v = v := funext fun i => Nat.min_self _
theorem ordR_allS (l : LG) : (ordR l (sizeV l)).length = sumV (sizeV l) := by rw [ordR_len, mt_selfS]
theorem rord9_lenS (u : Nat → S3) (l : LG) (w : World) (h : LV w u l) (hf : FitC l) (hlen : ∀ i, i < 8 → (l i).length ≤ 1024) :
    Calls Try.prog 25 #[.agg (lcells u), .agg (vcells (sizeV l))] w fun e w' => ∃ A c, e = .returned (.slice A (sumV (sizeV l)) c) ∧ Gr w w' :=
  (rord9_any u l (sizeV l) w h hf hlen).mono fun e w' ⟨s, he, hx, hg⟩ => by
    obtain ⟨A, c, rfl, -⟩ := hx.xv
    rw [ordR_allS] at he
    exact ⟨A, c, he, hg⟩

def FT (uo : Nat → S3) (s : Value) (j : Nat) (a : Addr) (t : TX) (v : Value) : Nat → Option Value
  | 0 => some (.agg (lcells uo))
  | 1 => some s
  | 2 => some (.int .i64 (j : Int))
  | 3 => some (.pointer (some a))
  | 4 => some (.agg (tcs t v))
  | 8 => some (.int .i64 0)
  | 11 => some (.int .i64 0)
  | _ => none
def GT (J : LG) : Nat → Option LG
  | 7 => some J
  | _ => none
def JT (J : LG) : Nat → Option (LG × Nat)
  | 5 => some (J, 0)
  | 6 => some (J, 0)
  | _ => none
/-- What the law's rounds leave. -/
structure OtS (w : World) (u : Nat → S3) (l : LG) (P3 B : Nat) (s : Value) (Q : List (TX × Nat × Nat)) (uo : Nat → S3) (i : Nat) (wr : World) : Prop where
  lg : LBox wr w.heap.size u
  o : LBox wr P3 uo
  n : LN wr w.heap.size uo (pre l (cntQ Q i))
  x : XN wr B s (Q.map (·.1))
  gr : Gr w wr
theorem OtS.next {w : World} {u : Nat → S3} {l : LG} {P3 B : Nat} {s : Value} {Q : List (TX × Nat × Nat)} {uo : Nat → S3} {i : Nat} {wr w' : World} (h : OtS w u l P3 B s Q uo i wr) (g : Gr wr w') : OtS w u l P3 B s Q uo i w' :=
  ⟨h.lg.gr g, h.o.gr g, h.n.keeps (Keeps.of_gr g), h.x.keeps (Keeps.of_gr g), h.gr.trans g⟩
theorem OtS.more {w : World} {u : Nat → S3} {l : LG} {P3 B : Nat} {s : Value} {Q : List (TX × Nat × Nat)} {uo ux : Nat → S3} {i i' B' : Nat} {wr : World} (h : OtS w u l P3 B s Q uo i wr) (h13 : w.heap.size < P3) (hx : LN wr B' ux (pre l (cntQ Q i'))) (hB : w.heap.size ≤ B') :
    OtS w u l P3 B s Q ux i' (putCells wr P3 0 (lcells ux).toList) := by
  have k : Keeps btL wr (putCells wr P3 0 (lcells ux).toList) := putCells_keeps h.o.box (by decide) _ _
  exact ⟨h.lg.keep (putCells_far _ _ _ _ _ (by omega)), putL8 h.o ux, (hx.le hB).keeps k, h.x.keeps k, Gr.putCells (Nat.le_of_lt h13) _ _ h.gr⟩

set_option maxRecDepth 100000 in
set_option maxHeartbeats 4000000 in
theorem steps9_law (u : Nat → S3) (l : LG) (w : World) (h : LV w u l) (hf : FitL l) :
    Calls Try.prog 6 #[.agg (lcells u)] w fun e w' => e = .returned (.bool true) ∧ Gr w w' := by
  obtain ⟨W, hW, hg, hL⟩ : ∃ W, W = w.alloc (.cells (lcells u) 24) ∧ Gr w W ∧ LBox W w.heap.size u := ⟨_, rfl, (Gr.refl w).alloc _, ⟨heap_alloc _ _ _⟩⟩
  have HL := Lib.hid hL
  have HG := Lib.hid hg
  have HLU := Lib.hid h
  have HFC := Lib.hid hf.c
  have HFQ := Lib.hid hf.q
  have HCK := Lib.hid (fun w1 (g : Gr w w1) => rcheck9_any u l w1 (h.gr g) hf.q)
  have HRZ := Lib.hid (fun w1 (g : Gr w w1) => rsize_any u l w1 (h.gr g))
  have HSZ := Lib.hid (fun w1 (g : Gr w w1) => size_any u l w1 (h.gr g))
  have HRL := Lib.hid (fun w1 (g : Gr w w1) (k : ∀ i, i < 8 → (l i).length ≤ 1024) => rord9_lenS u l w1 (h.gr g) hf.c k)
  obtain ⟨ec, hec⟩ : ∃ x, x = checkE l := ⟨_, rfl⟩
  obtain ⟨ns, hns⟩ : ∃ x, x = sumV (sizeV l) := ⟨_, rfl⟩
  obtain ⟨sl, hsl⟩ : ∃ x, x = sizeV l := ⟨_, rfl⟩
  rw [← hec] at HCK
  rw [← hsl] at HRZ HSZ
  rw [← hns, ← hsl] at HRL
  have HEC := Lib.hid hec
  have HSL := Lib.hid hsl
  clear h hf hL hg hec hns hsl
  go_enter Try.func6, Try.ntmps6
  go_upto_region 1 with (fail)
  rw [← hW]
  clear hW
  go_wp2_with fail
  refine (awake9_any W).mono ?_
  rintro e w1 ⟨rfl, g1⟩
  have HG1 := Lib.hid (HG.out.trans g1)
  have HL1 := Lib.hid (HL.out.gr g1).lc
  have HB1 := Lib.hid (HL.out.gr g1)
  clear g1 HL HG
  go_upto_region 3 with (fail)
  by_cases he : ec = 0
  case neg =>
    have hne : decide ((ec : Int) = 0) = false := decide_eq_false (by omega)
    have hne3 : decide (¬ (ec : Int) = 0) = true := decide_eq_true (by omega)
    have hne4 : ((ec : Int) == 0) = false := beq_eq_false_iff_ne.2 (by omega)
    have hne5 : ((ec : Int) != 0) = true := bne_iff_ne.2 (by omega)
    have hne6 : (ec == 0) = false := beq_eq_false_iff_ne.2 (by omega)
    have hne7 : decide (ec = 0) = false := decide_eq_false (by omega)
    have hne8 : ¬ ec = 0 := by omega
    have hne2 : ¬ ((ec : Int) = 0) := by omega
    refine qRegion (fun w' => LC w' w.heap.size u ∧ Gr w1 w') (by kernel_rfl) (by kernel_rfl) ⟨HL1.out.gr (Gr.refl _).drew, (Gr.refl _).drew⟩ ?_
    iterate 1
      refine qTake (by kernel_rfl) ?_
      apply Exists.intro
      refine ⟨fun wq hq => ?_, ?_⟩
      · go_light
        obtain ⟨⟨l0, l1, l2, l3, l4, l5, l6, l7⟩, hg⟩ := hq
        go_simp
        try with_reducible rfl
        done
      try simp only [Act.put, List.setIfInBounds_toArray, List.set_cons_zero, List.set_cons_succ]
    refine qCall (by kernel_rfl) ?_
    apply Exists.intro
    refine ⟨?_, ?_⟩
    · apply Exists.intro
      apply Exists.intro
      refine ⟨fun wq => ?_, fun wq hq => ?_⟩
      · go_light
        go_simp
        exact ⟨rfl, rfl⟩
      · exact (HCK.out wq (HG1.out.trans hq.2)).mono fun e w'' ⟨he, hg⟩ => ⟨he, hq.1.gr hg, hq.2.trans hg⟩
    try simp only [Act.put, List.setIfInBounds_toArray, List.set_cons_zero, List.set_cons_succ]
    iterate 2
      refine qTake (by kernel_rfl) ?_
      apply Exists.intro
      refine ⟨fun wq hq => ?_, ?_⟩
      · go_light
        obtain ⟨⟨l0, l1, l2, l3, l4, l5, l6, l7⟩, hg⟩ := hq
        go_simp
        try with_reducible rfl
        done
      try simp only [Act.put, List.setIfInBounds_toArray, List.set_cons_zero, List.set_cons_succ]
    iterate 6
      refine qSkip (by kernel_rfl) ?_
      try simp only [Act.put, List.setIfInBounds_toArray, List.set_cons_zero, List.set_cons_succ]
    iterate 1
      refine qTake (by kernel_rfl) ?_
      apply Exists.intro
      refine ⟨fun wq hq => ?_, ?_⟩
      · go_light
        obtain ⟨⟨l0, l1, l2, l3, l4, l5, l6, l7⟩, hg⟩ := hq
        go_simp
        try with_reducible rfl
        done
      try simp only [Act.put, List.setIfInBounds_toArray, List.set_cons_zero, List.set_cons_succ]
    refine qNil ?_
    rintro w3 ⟨-, hg3⟩
    have HG3 := Lib.hid (HG1.out.trans hg3)
    clear hg3
    go_wp2_with fail
    go_ret
    exact ⟨rfl, HG3.out⟩
  subst he
  have HOK : Hid (OkL l) := Lib.hid (okL_iff.1 HEC.out.symm)
  clear HEC
  refine qTail 7 (fun w' => LC w' w.heap.size u ∧ Gr w1 w') (by kernel_rfl) (by kernel_rfl) ⟨HL1.out.gr (Gr.refl _).drew, (Gr.refl _).drew⟩ ?_
  simp only [List.take_succ_cons, List.take_zero, List.drop_succ_cons, List.drop_zero]
  iterate 1
    refine qTake (by kernel_rfl) ?_
    apply Exists.intro
    refine ⟨fun wq hq => ?_, ?_⟩
    · go_light
      obtain ⟨⟨l0, l1, l2, l3, l4, l5, l6, l7⟩, hg⟩ := hq
      go_simp
      try with_reducible rfl
      done
    try simp only [Act.put, List.setIfInBounds_toArray, List.set_cons_zero, List.set_cons_succ]
  refine qCall (by kernel_rfl) ?_
  apply Exists.intro
  refine ⟨?_, ?_⟩
  · apply Exists.intro
    apply Exists.intro
    refine ⟨fun wq => ?_, fun wq hq => ?_⟩
    · go_light
      go_simp
      exact ⟨rfl, rfl⟩
    · exact (HCK.out wq (HG1.out.trans hq.2)).mono fun e w'' ⟨he, hg⟩ => ⟨he, hq.1.gr hg, hq.2.trans hg⟩
  try simp only [Act.put, List.setIfInBounds_toArray, List.set_cons_zero, List.set_cons_succ]
  iterate 4
    refine qTake (by kernel_rfl) ?_
    apply Exists.intro
    refine ⟨fun wq hq => ?_, ?_⟩
    · go_light
      obtain ⟨⟨l0, l1, l2, l3, l4, l5, l6, l7⟩, hg⟩ := hq
      go_simp
      try with_reducible rfl
      done
    try simp only [Act.put, List.setIfInBounds_toArray, List.set_cons_zero, List.set_cons_succ]
  refine qCall (by kernel_rfl) ?_
  apply Exists.intro
  refine ⟨?_, ?_⟩
  · apply Exists.intro
    apply Exists.intro
    refine ⟨fun wq => ?_, fun wq hq => ?_⟩
    · go_light
      go_simp
      exact ⟨rfl, rfl⟩
    · exact (HRZ.out wq (HG1.out.trans hq.2)).mono fun e w'' ⟨he, hg⟩ => ⟨he, hq.1.gr hg, hq.2.trans hg⟩
  try simp only [Act.put, List.setIfInBounds_toArray, List.set_cons_zero, List.set_cons_succ]
  refine qNil ?_
  intro w3 hC
  have HG3 := Lib.hid (HG1.out.trans hC.2)
  have HL3 := Lib.hid (HL1.out.gr hC.2)
  have HB3 := Lib.hid (HB1.out.gr hC.2)
  clear hC HL1 HG1 HB1
  go_wp2_with fail
  refine (HRL.out _ HG3.out HOK.out.len).mono ?_
  rintro e w4 ⟨A0, c0, rfl, g4⟩
  have HG4 := Lib.hid (HG3.out.trans g4)
  have HL4 := Lib.hid (HL3.out.gr g4)
  have HB4 := Lib.hid (HB3.out.gr g4)
  have HLT := Lib.hid HB4.out.lt
  clear g4 HG3 HL3 HB3
  by_cases h80 : 80 < ns
  · have h80i : (80 : Int) < (ns : Int) := by omega
    have h80d : decide ((80 : Int) < (ns : Int)) = true := decide_eq_true h80i
    go_wp2_with fail
    go_ret
    exact ⟨rfl, HG4.out⟩
  have h80i : ¬ ((80 : Int) < (ns : Int)) := by omega
  have h80d : decide ((80 : Int) < (ns : Int)) = false := decide_eq_false h80i
  have hz : LBox (w4.alloc (.cells (lcells fun _ => ⟨none, 0, 0⟩) 24)) w4.heap.size Z3 := ⟨heap_alloc _ _ _⟩
  go_upto_region 6 with (fail)
  clear h80 h80i h80d
  obtain ⟨w5, hw5, g5, hb5⟩ : ∃ x, x = (w4.alloc (.cells (lcells fun _ => ⟨none, 0, 0⟩) 24)) ∧ Gr w4 x ∧ LBox x w4.heap.size Z3 := ⟨_, rfl, (Gr.refl w4).alloc _, hz⟩
  clear hz
  rw [← hw5]
  obtain ⟨P3, hP3⟩ : ∃ P, P = w4.heap.size := ⟨_, rfl⟩
  rw [← hP3] at hb5 ⊢
  have H13 : Hid (w.heap.size < P3) := Lib.hid (by rw [hP3]; exact HLT.out)
  have HG5 := Lib.hid (HG4.out.trans g5)
  have HB5 := Lib.hid (HB4.out.gr g5)
  have HL5 := Lib.hid HB5.out.lc
  have HO5 := Lib.hid hb5
  have HOR := Lib.hid (fun w1 (g : Gr w w1) => order9_any u l sl w1 (HLU.out.gr g) HFC.out HOK.out.len)
  clear hw5 hP3 g5 hb5 HL4 HG4 HB4 HLT
  refine qTail 3 (fun w' => LC w' w.heap.size u ∧ Gr w5 w') (by kernel_rfl) (by kernel_rfl) ⟨HL5.out.gr (Gr.refl _).drew, (Gr.refl _).drew⟩ ?_
  simp only [List.take_succ_cons, List.take_zero, List.drop_succ_cons, List.drop_zero]
  iterate 2
    refine qTake (by kernel_rfl) ?_
    apply Exists.intro
    refine ⟨fun wq hq => ?_, ?_⟩
    · go_light
      obtain ⟨⟨l0, l1, l2, l3, l4, l5, l6, l7⟩, hg⟩ := hq
      go_simp
      try with_reducible rfl
      done
    try simp only [Act.put, List.setIfInBounds_toArray, List.set_cons_zero, List.set_cons_succ]
  refine qCall (by kernel_rfl) ?_
  apply Exists.intro
  refine ⟨?_, ?_⟩
  · apply Exists.intro
    apply Exists.intro
    refine ⟨fun wq => ?_, fun wq hq => ?_⟩
    · go_light
      go_simp
      exact ⟨rfl, rfl⟩
    · exact (HSZ.out wq (HG5.out.trans hq.2)).mono fun e w'' ⟨he, hg⟩ => ⟨he, hq.1.gr hg, hq.2.trans hg⟩
  try simp only [Act.put, List.setIfInBounds_toArray, List.set_cons_zero, List.set_cons_succ]
  refine qNil ?_
  intro w6 hC
  have HG6 := Lib.hid (HG5.out.trans hC.2)
  have HB6 := Lib.hid (HB5.out.gr hC.2)
  have HO6 := Lib.hid (HO5.out.gr hC.2)
  clear hC HL5 HG5 HB5 HO5
  go_wp2_with fail
  refine (HOR.out _ HG6.out).mono ?_
  rintro e w7 ⟨s, Q, rfl, hq, hx, g7⟩
  have hsl := HSL.out
  subst hsl
  have HQ := Lib.hid hq
  obtain ⟨As, cs, hsv, hnc, -, hat⟩ := hx.xv
  obtain ⟨n, hn⟩ : ∃ n, n = Q.length := ⟨_, rfl⟩
  rw [List.length_map, ← hn] at hsv
  subst hsv
  have HS7 : Hid (OtS w u l P3 w6.heap.size (.slice As n cs) Q Z3 0 w7) := Lib.hid ⟨HB6.out.gr g7, HO6.out.gr g7, by rw [pre_zero]; exact LN.nil _ _, hx, HG6.out.trans g7⟩
  have HN := Lib.hid hn
  have hnb : n ≤ 8192 := by
    rw [hn, hq.1.length_eq]
    exact sAll_len l _ (fun i hi => Nat.le_trans (Nat.min_le_right _ _) (HOK.out.len i hi)) 8 (Nat.le_refl _)
  clear hq hx hnc hat hn g7 HG6 HB6 HO6
  go_wp2_with fail
  go_loopw [5] (fun i wr => ∃ j : Nat, j ≤ n ∧ i = .int .i64 j ∧ Hid (∃ uo, OtS w u l P3 w6.heap.size (.slice As n cs) Q uo j wr)) (fun i _ => n - (intOf i).toNat)
  case atStart => exact ⟨0, Nat.zero_le _, rfl, Lib.hid ⟨_, HS7.out⟩⟩
  case round =>
    obtain ⟨j, hj, rfl, hst⟩ := hrel
    rename World => wr
    obtain ⟨uo, hst⟩ := hst.out
    by_cases hjn : j < n
    · have hj0 : (0 : Int) ≤ (j : Int) := Int.natCast_nonneg _
      have hjn1 : (j : Int) < (n : Int) := by omega
      have hjl : j < Q.length := by rw [← HN.out]; exact hjn
      obtain ⟨⟨t, m, k⟩, hp⟩ : ∃ p, p = Q[j] := ⟨_, rfl⟩
      have hqj : Q[j]? = some (t, m, k) := by rw [List.getElem?_eq_getElem hjl, ← hp]
      obtain ⟨m', k', t', hm, hkc, hlt, hpe⟩ := (ordQ_mem HQ.out (lq_refl _)).1 (List.mem_of_getElem? hqj)
      injection hpe with e1 e2
      injection e2 with e2 e3
      subst e1 e2 e3
      obtain ⟨hadd, hagain⟩ := steps_add HOK.out HQ.out hqj
      have hqs := (HFQ.out m t hm (List.mem_of_getElem? hlt)).1
      have htf := HFC.out.tx m t hm (List.mem_of_getElem? hlt)
      obtain ⟨J, hJ⟩ : ∃ y, y = pre l (cntQ Q (j + 1)) := ⟨_, rfl⟩
      rw [← hJ] at hadd hagain
      have HFJ : Hid (FitC J) := Lib.hid (by rw [hJ]; exact fitC_pre HFC.out _)
      have HA1 := Lib.hid (fun u1 v1 w1 (k1 : LV w1 u1 (pre l (cntQ Q j))) (k2 : TOV w1 v1 t.ops) => add_ok u1 _ J t v1 w1 hadd k1 (fitC_pre HFC.out _) k2 hqs htf)
      have HA2 := Lib.hid (fun u1 v1 w1 (k1 : LV w1 u1 J) (k2 : TOV w1 v1 t.ops) => add_ok u1 _ J t v1 w1 hagain k1 HFJ.out k2 hqs htf)
      have HJ := Lib.hid hJ
      obtain ⟨Ax, cx, hxv, hxn, -, hxat⟩ := hst.x.xv
      injection hxv with e1 e2 e3
      subst e1 e3
      obtain ⟨b, off, hA, hxc⟩ := hxat j (by rw [List.length_map]; exact hjl)
      rw [List.getElem_map, ← hp] at hxc
      subst hA
      obtain ⟨vx, hvx, hfx⟩ := hxc
      obtain ⟨Av, cv, hvf⟩ := tov_form hvx
      subst hvf
      obtain ⟨nv, hnv⟩ : ∃ n, n = t.ops.length := ⟨_, rfl⟩
      rw [← hnv] at hvx hfx
      have HVX := Lib.hid hvx
      have HXF := Lib.hid hfx
      have HST := Lib.hid hst
      have HST0 : Hid (w.heap.size ≤ wr.heap.size) := Lib.hid hst.gr.size
      clear hst hp hqj hkc hlt hadd hagain hqs htf hJ e2 hxn hxat hvx hfx hnv hm
      go_upto_region 10 with (fail)
      refine wp_region_noPanic ?_
      refine iRegionA (RI btL wr (QP (FT uo (.slice (some ⟨b, off, none⟩) n cs) j ⟨b, off + j * 12, none⟩ t (.slice Av nv cv)) (GT J) (JT J) (fun _ => none) (fun _ => none) wr.heap.size) [(9, 10, 7)] (fun _ => 24) (fun _ => lcells fun _ => ⟨none, 0, 0⟩)) (by kernel_rfl) (by kernel_rfl) (ri_start QP.st (Gr.refl _)) ?_ ?_
      · intro i o ho vals wc A hI hn hdep hOld hNew
        have hi : i < 12 := (List.getElem?_eq_some_iff.1 ho).1
        obtain ⟨l0, l1, l2, l3, l4, l5, l6, l7⟩ := (HST.out.o.gr hI.gr).all
        obtain ⟨x0, x1, x2, x3, x4, x5, x6, x7, x8, x9, x10, x11⟩ := HXF.out.gr hI.gr
        have eo4 : A.tmps[4]?.getD undef = .slice (some ⟨b, off, none⟩) n cs := slotE (hOld 4 (by kernel_rfl))
        have eo5 : A.tmps[5]?.getD undef = .int .i64 (j : Int) := slotE (hOld 5 (by kernel_rfl))
        have eo3 : A.tmps[3]?.getD undef = .pointer (some ⟨P3, 0, none⟩) := slotE (hOld 3 (by kernel_rfl))
        obtain rfl | rfl | rfl | rfl | rfl | rfl | rfl | rfl | rfl | rfl | rfl | rfl : i = 0 ∨ i = 1 ∨ i = 2 ∨ i = 3 ∨ i = 4 ∨ i = 5 ∨ i = 6 ∨ i = 7 ∨ i = 8 ∨ i = 9 ∨ i = 10 ∨ i = 11 := by omega
        · obtain rfl := Option.some.inj (show some _ = some o from ho)
          refine aVal rfl rfl (v := .agg (lcells uo)) (w' := wc) ?_ ⟨_, rfl, hI.val hn (by decide) (qpF rfl rfl rfl rfl rfl)⟩
          go_simp
        · obtain rfl := Option.some.inj (show some _ = some o from ho)
          refine aVal rfl rfl (v := .slice (some ⟨b, off, none⟩) n cs) (w' := wc) ?_ ⟨_, rfl, hI.val hn (by decide) (qpF rfl rfl rfl rfl rfl)⟩
          go_simp
        · obtain rfl := Option.some.inj (show some _ = some o from ho)
          refine aVal rfl rfl (v := .int .i64 (j : Int)) (w' := wc) ?_ ⟨_, rfl, hI.val hn (by decide) (qpF rfl rfl rfl rfl rfl)⟩
          go_simp
        · obtain rfl := Option.some.inj (show some _ = some o from ho)
          obtain ⟨y1, hy1⟩ := hdep ⟨1, .data⟩ (by simp) rfl
          have s1 := slotE (hNew 1 35 _ y1 rfl rfl (by kernel_rfl) hy1)
          rw [(hI.ok 1 y1 hy1).f _ rfl] at s1
          obtain ⟨y2, hy2⟩ := hdep ⟨2, .data⟩ (by simp) rfl
          have s2 := slotE (hNew 2 36 _ y2 rfl rfl (by kernel_rfl) hy2)
          rw [(hI.ok 2 y2 hy2).f _ rfl] at s2
          refine aVal rfl rfl (v := .pointer (some ⟨b, off + j * 12, none⟩)) (w' := wc) ?_ ⟨_, rfl, hI.val hn (by decide) (qpF rfl rfl rfl rfl rfl)⟩
          go_simp
        · obtain rfl := Option.some.inj (show some _ = some o from ho)
          obtain ⟨y3, hy3⟩ := hdep ⟨3, .data⟩ (by simp) rfl
          have s3 := slotE (hNew 3 37 _ y3 rfl rfl (by kernel_rfl) hy3)
          rw [(hI.ok 3 y3 hy3).f _ rfl] at s3
          refine aVal rfl rfl (v := .agg (tcs t (.slice Av nv cv))) (w' := wc) ?_ ⟨_, rfl, hI.val hn (by decide) (qpF rfl rfl rfl rfl rfl)⟩
          go_simp
        · obtain rfl := Option.some.inj (show some _ = some o from ho)
          obtain ⟨y0, hy0⟩ := hdep ⟨0, .data⟩ (by simp) rfl
          have s0 := slotE (hNew 0 34 _ y0 rfl rfl (by kernel_rfl) hy0)
          rw [(hI.ok 0 y0 hy0).f _ rfl] at s0
          obtain ⟨y4, hy4⟩ := hdep ⟨4, .data⟩ (by simp) rfl
          have s4 := slotE (hNew 4 38 _ y4 rfl rfl (by kernel_rfl) hy4)
          rw [(hI.ok 4 y4 hy4).f _ rfl] at s4
          refine aCall rfl rfl (w1 := wc) ?_ ((HA1.out uo _ wc (HST.out.n.lv.gr hI.gr) (HVX.out.gr hI.gr)).mono fun e w' ⟨ux, he, hlx, hg⟩ => ⟨_, he, _, rfl, (hI.next hg).val hn (by decide) (qpJ rfl rfl rfl rfl rfl (hlx.le hI.gr.size))⟩)
          go_simp
        · obtain rfl := Option.some.inj (show some _ = some o from ho)
          obtain ⟨y5, hy5⟩ := hdep ⟨5, .data⟩ (by simp) rfl
          obtain ⟨u5, rfl, hl5⟩ := (hI.ok 5 y5 hy5).j _ rfl
          have s5 := slotE (hNew 5 39 _ _ rfl rfl (by kernel_rfl) hy5)
          refine aVal rfl rfl (v := .tuple #[.agg (lcells u5), .int .i64 0]) (w' := wc) ?_ ⟨_, rfl, hI.val hn (by decide) (qpJ rfl rfl rfl rfl rfl hl5)⟩
          go_simp
        · obtain rfl := Option.some.inj (show some _ = some o from ho)
          obtain ⟨y6, hy6⟩ := hdep ⟨6, .data⟩ (by simp) rfl
          obtain ⟨u6, rfl, hl6⟩ := (hI.ok 6 y6 hy6).j _ rfl
          have s6 := slotE (hNew 6 33 _ _ rfl rfl (by kernel_rfl) hy6)
          refine aVal rfl rfl (v := .agg (lcells u6)) (w' := wc) ?_ ⟨_, rfl, hI.val hn (by decide) (qpG rfl rfl rfl rfl rfl hl6)⟩
          go_simp
        · obtain rfl := Option.some.inj (show some _ = some o from ho)
          obtain ⟨y6, hy6⟩ := hdep ⟨6, .data⟩ (by simp) rfl
          obtain ⟨u6, rfl, hl6⟩ := (hI.ok 6 y6 hy6).j _ rfl
          have s6 := slotE (hNew 6 33 _ _ rfl rfl (by kernel_rfl) hy6)
          refine aVal rfl rfl (v := .int .i64 0) (w' := wc) ?_ ⟨_, rfl, hI.val hn (by decide) (qpF rfl rfl rfl rfl rfl)⟩
          go_simp
        · obtain rfl := Option.some.inj (show some _ = some o from ho)
          refine aVal rfl rfl (v := .pointer (some ⟨wc.heap.size, 0, none⟩)) (w' := wc.alloc (.cells (lcells fun _ => ⟨none, 0, 0⟩) 24)) ?_ ⟨_, rfl, hI.new hn (by decide) rfl rfl (fun _ _ => qpN rfl rfl rfl rfl rfl)⟩
          go_simp
        · obtain rfl := Option.some.inj (show some _ = some o from ho)
          obtain ⟨y9, hy9⟩ := hdep ⟨9, .data⟩ (by simp) rfl
          obtain ⟨P, rfl, hP1, hP2⟩ := hI.at_new (a := 9) (k := 10) (s := 7) (by decide) hn hy9
          have s9 := slotE (hNew 9 6 _ _ rfl rfl (by kernel_rfl) hy9)
          obtain ⟨y7, hy7⟩ := hdep ⟨7, .data⟩ (by simp) rfl
          obtain ⟨u7, rfl, hl7⟩ := (hI.ok 7 y7 hy7).g _ rfl
          have s7 := slotE (hNew 7 40 _ _ rfl rfl (by kernel_rfl) hy7)
          have hz : LBox wc P Z3 := ⟨hP2⟩
          obtain ⟨c0, c1, c2, c3, c4, c5, c6, c7⟩ := hz.zero
          have f0 := unfrozen_of_block hz.box 0
          have f1 := unfrozen_of_block hz.box 1
          have f2 := unfrozen_of_block hz.box 2
          have f3 := unfrozen_of_block hz.box 3
          have f4 := unfrozen_of_block hz.box 4
          have f5 := unfrozen_of_block hz.box 5
          have f6 := unfrozen_of_block hz.box 6
          have f7 := unfrozen_of_block hz.box 7
          refine aSkip rfl rfl (w' := putCells wc P 0 (lcells u7).toList) ?_ ⟨_, rfl, hI.putA (a := 9) (k := 10) (s := 7) (c := lcells u7) (by decide) hn (by decide) (by decide) (by decide) hy9 hy7 rfl (fun _ => qpN rfl rfl rfl rfl rfl)⟩
          clear hz hI
          go_simp
          rfl
        · obtain rfl := Option.some.inj (show some _ = some o from ho)
          obtain ⟨y8, hy8⟩ := hdep ⟨8, .data⟩ (by simp) rfl
          have s8 := slotE (hNew 8 41 _ y8 rfl rfl (by kernel_rfl) hy8)
          rw [(hI.ok 8 y8 hy8).f _ rfl] at s8
          refine aVal rfl rfl (v := .int .i64 0) (w' := wc) ?_ ⟨_, rfl, hI.val hn (by decide) (qpF rfl rfl rfl rfl rfl)⟩
          go_simp
      · intro vals w10 hall hI
        refine NoPanic.normal ?_
        obtain ⟨y0, h0⟩ := hall 0 (by decide)
        obtain ⟨y1, h1⟩ := hall 1 (by decide)
        obtain ⟨y2, h2⟩ := hall 2 (by decide)
        obtain ⟨y3, h3⟩ := hall 3 (by decide)
        obtain ⟨y4, h4⟩ := hall 4 (by decide)
        obtain ⟨y5, h5⟩ := hall 5 (by decide)
        obtain ⟨y6, h6⟩ := hall 6 (by decide)
        obtain ⟨y7, h7⟩ := hall 7 (by decide)
        obtain ⟨y8, h8⟩ := hall 8 (by decide)
        obtain ⟨y9, h9⟩ := hall 9 (by decide)
        obtain ⟨y10, h10⟩ := hall 10 (by decide)
        obtain ⟨y11, h11⟩ := hall 11 (by decide)
        obtain ⟨ux, rfl, hlx⟩ := (hI.ok 7 y7 h7).g _ rfl
        obtain ⟨P6, rfl, hpl, hbP⟩ := hI.at_full (a := 9) (k := 10) (s := 7) (by decide) h10 h7 h9
        obtain rfl := (hI.ok 11 y11 h11).f _ rfl
        have HBux : Hid (LBox w10 P6 ux) := Lib.hid ⟨hbP⟩
        have HNux := Lib.hid hlx
        have HGux := Lib.hid hI.gr
        clear hlx hpl hbP
        simp only [putAll, putV, h0, h1, h2, h3, h4, h5, h6, h7, h8, h9, h10, h11]
        clear hI hall h0 h1 h2 h3 h4 h5 h6 h7 h8 h9 h10 h11
        simp only [Act.put, List.setIfInBounds_toArray, List.set_cons_zero, List.set_cons_succ]
        have HXF2 := Lib.hid (HXF.out.gr HGux.out)
        have HVX2 := Lib.hid (HVX.out.gr HGux.out)
        have HST2 := Lib.hid (HST.out.next HGux.out)
        clear HXF HVX HST
        go_upto_region 11 with (fail)
        refine wp_region_noPanic ?_
        refine iRegionA (RI btL w10 (QP (FT ux (.slice (some ⟨b, off, none⟩) n cs) j ⟨b, off + j * 12, none⟩ t (.slice Av nv cv)) (GT J) (JT J) (fun _ => none) (fun _ => none) w10.heap.size) [(9, 10, 7)] (fun _ => 24) (fun _ => lcells fun _ => ⟨none, 0, 0⟩)) (by kernel_rfl) (by kernel_rfl) (ri_start QP.st (Gr.refl _)) ?_ ?_
        · intro i o ho vals wc A hI hn hdep hOld hNew
          have hi : i < 12 := (List.getElem?_eq_some_iff.1 ho).1
          obtain ⟨l0, l1, l2, l3, l4, l5, l6, l7⟩ := (HBux.out.gr hI.gr).all
          obtain ⟨x0, x1, x2, x3, x4, x5, x6, x7, x8, x9, x10, x11⟩ := HXF2.out.gr hI.gr
          have eo4 : A.tmps[4]?.getD undef = .slice (some ⟨b, off, none⟩) n cs := slotE (hOld 4 (by kernel_rfl))
          have eo5 : A.tmps[5]?.getD undef = .int .i64 (j : Int) := slotE (hOld 5 (by kernel_rfl))
          have eo6 : A.tmps[6]?.getD undef = .pointer (some ⟨P6, 0, none⟩) := slotE (hOld 6 (by kernel_rfl))
          obtain rfl | rfl | rfl | rfl | rfl | rfl | rfl | rfl | rfl | rfl | rfl | rfl : i = 0 ∨ i = 1 ∨ i = 2 ∨ i = 3 ∨ i = 4 ∨ i = 5 ∨ i = 6 ∨ i = 7 ∨ i = 8 ∨ i = 9 ∨ i = 10 ∨ i = 11 := by omega
          · obtain rfl := Option.some.inj (show some _ = some o from ho)
            refine aVal rfl rfl (v := .agg (lcells ux)) (w' := wc) ?_ ⟨_, rfl, hI.val hn (by decide) (qpF rfl rfl rfl rfl rfl)⟩
            go_simp
          · obtain rfl := Option.some.inj (show some _ = some o from ho)
            refine aVal rfl rfl (v := .slice (some ⟨b, off, none⟩) n cs) (w' := wc) ?_ ⟨_, rfl, hI.val hn (by decide) (qpF rfl rfl rfl rfl rfl)⟩
            go_simp
          · obtain rfl := Option.some.inj (show some _ = some o from ho)
            refine aVal rfl rfl (v := .int .i64 (j : Int)) (w' := wc) ?_ ⟨_, rfl, hI.val hn (by decide) (qpF rfl rfl rfl rfl rfl)⟩
            go_simp
          · obtain rfl := Option.some.inj (show some _ = some o from ho)
            obtain ⟨y1, hy1⟩ := hdep ⟨1, .data⟩ (by simp) rfl
            have s1 := slotE (hNew 1 44 _ y1 rfl rfl (by kernel_rfl) hy1)
            rw [(hI.ok 1 y1 hy1).f _ rfl] at s1
            obtain ⟨y2, hy2⟩ := hdep ⟨2, .data⟩ (by simp) rfl
            have s2 := slotE (hNew 2 45 _ y2 rfl rfl (by kernel_rfl) hy2)
            rw [(hI.ok 2 y2 hy2).f _ rfl] at s2
            refine aVal rfl rfl (v := .pointer (some ⟨b, off + j * 12, none⟩)) (w' := wc) ?_ ⟨_, rfl, hI.val hn (by decide) (qpF rfl rfl rfl rfl rfl)⟩
            go_simp
          · obtain rfl := Option.some.inj (show some _ = some o from ho)
            obtain ⟨y3, hy3⟩ := hdep ⟨3, .data⟩ (by simp) rfl
            have s3 := slotE (hNew 3 46 _ y3 rfl rfl (by kernel_rfl) hy3)
            rw [(hI.ok 3 y3 hy3).f _ rfl] at s3
            refine aVal rfl rfl (v := .agg (tcs t (.slice Av nv cv))) (w' := wc) ?_ ⟨_, rfl, hI.val hn (by decide) (qpF rfl rfl rfl rfl rfl)⟩
            go_simp
          · obtain rfl := Option.some.inj (show some _ = some o from ho)
            obtain ⟨y0, hy0⟩ := hdep ⟨0, .data⟩ (by simp) rfl
            have s0 := slotE (hNew 0 43 _ y0 rfl rfl (by kernel_rfl) hy0)
            rw [(hI.ok 0 y0 hy0).f _ rfl] at s0
            obtain ⟨y4, hy4⟩ := hdep ⟨4, .data⟩ (by simp) rfl
            have s4 := slotE (hNew 4 47 _ y4 rfl rfl (by kernel_rfl) hy4)
            rw [(hI.ok 4 y4 hy4).f _ rfl] at s4
            refine aCall rfl rfl (w1 := wc) ?_ ((HA2.out ux _ wc (HNux.out.lv.gr hI.gr) (HVX2.out.gr hI.gr)).mono fun e w' ⟨ux, he, hlx, hg⟩ => ⟨_, he, _, rfl, (hI.next hg).val hn (by decide) (qpJ rfl rfl rfl rfl rfl (hlx.le hI.gr.size))⟩)
            go_simp
          · obtain rfl := Option.some.inj (show some _ = some o from ho)
            obtain ⟨y5, hy5⟩ := hdep ⟨5, .data⟩ (by simp) rfl
            obtain ⟨u5, rfl, hl5⟩ := (hI.ok 5 y5 hy5).j _ rfl
            have s5 := slotE (hNew 5 48 _ _ rfl rfl (by kernel_rfl) hy5)
            refine aVal rfl rfl (v := .tuple #[.agg (lcells u5), .int .i64 0]) (w' := wc) ?_ ⟨_, rfl, hI.val hn (by decide) (qpJ rfl rfl rfl rfl rfl hl5)⟩
            go_simp
          · obtain rfl := Option.some.inj (show some _ = some o from ho)
            obtain ⟨y6, hy6⟩ := hdep ⟨6, .data⟩ (by simp) rfl
            obtain ⟨u6, rfl, hl6⟩ := (hI.ok 6 y6 hy6).j _ rfl
            have s6 := slotE (hNew 6 42 _ _ rfl rfl (by kernel_rfl) hy6)
            refine aVal rfl rfl (v := .agg (lcells u6)) (w' := wc) ?_ ⟨_, rfl, hI.val hn (by decide) (qpG rfl rfl rfl rfl rfl hl6)⟩
            go_simp
          · obtain rfl := Option.some.inj (show some _ = some o from ho)
            obtain ⟨y6, hy6⟩ := hdep ⟨6, .data⟩ (by simp) rfl
            obtain ⟨u6, rfl, hl6⟩ := (hI.ok 6 y6 hy6).j _ rfl
            have s6 := slotE (hNew 6 42 _ _ rfl rfl (by kernel_rfl) hy6)
            refine aVal rfl rfl (v := .int .i64 0) (w' := wc) ?_ ⟨_, rfl, hI.val hn (by decide) (qpF rfl rfl rfl rfl rfl)⟩
            go_simp
          · obtain rfl := Option.some.inj (show some _ = some o from ho)
            refine aVal rfl rfl (v := .pointer (some ⟨wc.heap.size, 0, none⟩)) (w' := wc.alloc (.cells (lcells fun _ => ⟨none, 0, 0⟩) 24)) ?_ ⟨_, rfl, hI.new hn (by decide) rfl rfl (fun _ _ => qpN rfl rfl rfl rfl rfl)⟩
            go_simp
          · obtain rfl := Option.some.inj (show some _ = some o from ho)
            obtain ⟨y9, hy9⟩ := hdep ⟨9, .data⟩ (by simp) rfl
            obtain ⟨P, rfl, hP1, hP2⟩ := hI.at_new (a := 9) (k := 10) (s := 7) (by decide) hn hy9
            have s9 := slotE (hNew 9 8 _ _ rfl rfl (by kernel_rfl) hy9)
            obtain ⟨y7, hy7⟩ := hdep ⟨7, .data⟩ (by simp) rfl
            obtain ⟨u7, rfl, hl7⟩ := (hI.ok 7 y7 hy7).g _ rfl
            have s7 := slotE (hNew 7 49 _ _ rfl rfl (by kernel_rfl) hy7)
            have hz : LBox wc P Z3 := ⟨hP2⟩
            obtain ⟨c0, c1, c2, c3, c4, c5, c6, c7⟩ := hz.zero
            have f0 := unfrozen_of_block hz.box 0
            have f1 := unfrozen_of_block hz.box 1
            have f2 := unfrozen_of_block hz.box 2
            have f3 := unfrozen_of_block hz.box 3
            have f4 := unfrozen_of_block hz.box 4
            have f5 := unfrozen_of_block hz.box 5
            have f6 := unfrozen_of_block hz.box 6
            have f7 := unfrozen_of_block hz.box 7
            refine aSkip rfl rfl (w' := putCells wc P 0 (lcells u7).toList) ?_ ⟨_, rfl, hI.putA (a := 9) (k := 10) (s := 7) (c := lcells u7) (by decide) hn (by decide) (by decide) (by decide) hy9 hy7 rfl (fun _ => qpN rfl rfl rfl rfl rfl)⟩
            clear hz hI
            go_simp
            rfl
          · obtain rfl := Option.some.inj (show some _ = some o from ho)
            obtain ⟨y8, hy8⟩ := hdep ⟨8, .data⟩ (by simp) rfl
            have s8 := slotE (hNew 8 50 _ y8 rfl rfl (by kernel_rfl) hy8)
            rw [(hI.ok 8 y8 hy8).f _ rfl] at s8
            refine aVal rfl rfl (v := .int .i64 0) (w' := wc) ?_ ⟨_, rfl, hI.val hn (by decide) (qpF rfl rfl rfl rfl rfl)⟩
            go_simp
        · intro vals w11 hall hI
          refine NoPanic.normal ?_
          obtain ⟨y0, h0⟩ := hall 0 (by decide)
          obtain ⟨y1, h1⟩ := hall 1 (by decide)
          obtain ⟨y2, h2⟩ := hall 2 (by decide)
          obtain ⟨y3, h3⟩ := hall 3 (by decide)
          obtain ⟨y4, h4⟩ := hall 4 (by decide)
          obtain ⟨y5, h5⟩ := hall 5 (by decide)
          obtain ⟨y6, h6⟩ := hall 6 (by decide)
          obtain ⟨y7, h7⟩ := hall 7 (by decide)
          obtain ⟨y8, h8⟩ := hall 8 (by decide)
          obtain ⟨y9, h9⟩ := hall 9 (by decide)
          obtain ⟨y10, h10⟩ := hall 10 (by decide)
          obtain ⟨y11, h11⟩ := hall 11 (by decide)
          obtain ⟨uy, rfl, hlx⟩ := (hI.ok 7 y7 h7).g _ rfl
          obtain ⟨P8, rfl, hpl, hbP⟩ := hI.at_full (a := 9) (k := 10) (s := 7) (by decide) h10 h7 h9
          obtain rfl := (hI.ok 11 y11 h11).f _ rfl
          have HBuy : Hid (LBox w11 P8 uy) := Lib.hid ⟨hbP⟩
          have HNuy := Lib.hid hlx
          have HGuy := Lib.hid hI.gr
          clear hlx hpl hbP
          simp only [putAll, putV, h0, h1, h2, h3, h4, h5, h6, h7, h8, h9, h10, h11]
          clear hI hall h0 h1 h2 h3 h4 h5 h6 h7 h8 h9 h10 h11
          simp only [Act.put, List.setIfInBounds_toArray, List.set_cons_zero, List.set_cons_succ]
          have HST3 := Lib.hid (HST2.out.next HGuy.out)
          have HB6 := Lib.hid (HBux.out.gr HGuy.out)
          have HN6 := Lib.hid (HNux.out.keeps (Keeps.of_gr HGuy.out))
          have HL6 := Lib.hid HB6.out.lc
          have HL8 := Lib.hid HBuy.out.lc
          have HSM := Lib.hid (fun w1 (g : Gr w11 w1) => rsame9_any uy ux J J w1 (HNuy.out.lv.gr g) (HN6.out.lv.gr g))
          rw [sameLG_self] at HSM
          clear HST2 HBux HNux HBuy HXF2 HVX2
          obtain ⟨l0, l1, l2, l3, l4, l5, l6, l7⟩ := HL6.out
          obtain ⟨m0, m1, m2, m3, m4, m5, m6, m7⟩ := HL8.out
          go_wp2_with fail
          refine (HSM.out _ (Gr.refl _)).mono ?_
          rintro e w12 ⟨rfl, hg12⟩
          clear l0 l1 l2 l3 l4 l5 l6 l7 m0 m1 m2 m3 m4 m5 m6 m7
          have hl6 := HL6.out.gr hg12
          have hst4 := HST3.out.next hg12
          have hz := hst4.o
          obtain ⟨l0, l1, l2, l3, l4, l5, l6, l7⟩ := hl6
          obtain ⟨c0, c1, c2, c3, c4, c5, c6, c7⟩ := hz.all
          have f0 := unfrozen_of_block hz.box 0
          have f1 := unfrozen_of_block hz.box 1
          have f2 := unfrozen_of_block hz.box 2
          have f3 := unfrozen_of_block hz.box 3
          have f4 := unfrozen_of_block hz.box 4
          have f5 := unfrozen_of_block hz.box 5
          have f6 := unfrozen_of_block hz.box 6
          have f7 := unfrozen_of_block hz.box 7
          have HS13 : Hid (OtS w u l P3 w6.heap.size (.slice (some ⟨b, off, none⟩) n cs) Q ux (j + 1) (putCells w12 P3 0 (lcells ux).toList)) := Lib.hid (hst4.more H13.out (by rw [← HJ.out]; exact HN6.out.keeps (Keeps.of_gr hg12)) HST0.out)
          clear hst4 hz hg12 HST3 HB6 HN6 HL6 HL8 HSM
          go_upto_region 9 with (fail)
          clear l0 l1 l2 l3 l4 l5 l6 l7 c0 c1 c2 c3 c4 c5 c6 c7 f0 f1 f2 f3 f4 f5 f6 f7
          change Code.wp Try.prog _ _ _ (putCells w12 P3 0 (lcells ux).toList)
          obtain ⟨w13, hw13⟩ : ∃ x, x = putCells w12 P3 0 (lcells ux).toList := ⟨_, rfl⟩
          rw [← hw13] at HS13 ⊢
          clear hw13
          go_wp2_with fail
          go_roundw
          case measure => simp [intOf]; omega
          case rel => exact ⟨j + 1, by omega, by go_num, Lib.hid ⟨_, HS13.out⟩⟩
    · obtain rfl : j = n := by omega
      have hall : sameLG (pre l (cntQ Q j)) l = true := by rw [HN.out]; exact steps_all HOK.out HQ.out
      have HSM := Lib.hid (fun w1 (g : Gr wr w1) => rsame9_any uo u (pre l (cntQ Q j)) l w1 (hst.n.lv.gr g) (HLU.out.gr (hst.gr.trans g)))
      rw [hall] at HSM
      obtain ⟨p0, p1, p2, p3, p4, p5, p6, p7⟩ := hst.o.all
      obtain ⟨q0, q1, q2, q3, q4, q5, q6, q7⟩ := hst.lg.all
      have HGF := Lib.hid hst.gr
      clear hst hall
      go_wp2_with fail
      refine (HSM.out _ (Gr.refl _)).mono ?_
      rintro e w8 ⟨rfl, g8⟩
      have HG8 := Lib.hid (HGF.out.trans g8)
      clear g8 p0 p1 p2 p3 p4 p5 p6 p7 q0 q1 q2 q3 q4 q5 q6 q7
      go_wp2_with fail
      go_ret
      exact ⟨rfl, HG8.out⟩
end Go.Proofs.Ytlgljanofppleaa
