/- Texts CaF, joined. -/
import Derived.Test.YtjpiemgpbakfaaaG28
import Derived.Test.YtjpiemgpbakfaaaG29
/- Walks: package cast's Copy and hold. Written by wip/tools/gencaf.py. -/
namespace Go.Proofs.Ytjpiemgpbakfaaa
open Go.RowKit Go.Joins
set_option linter.unusedSimpArgs false
set_option linter.unusedVariables false

/-- A call's answer: an inbox that is new memory. -/
def RetI (r : LG × List TX) (w : World) (e : Ending) (w' : World) : Prop := ∃ u' s', e = .returned (.agg (icells u' s')) ∧ LN w' w.heap.size u' r.1 ∧ XN w' w.heap.size s'.v r.2 ∧ Gr w w'
theorem boxesIc (u : Nat → S3) (s : S3) (w : World) : ∃ W, W = (w.alloc (.cells (icells u s) 35)).alloc (.cells zic 35) ∧ Gr w W ∧ W.heap.size = w.heap.size + 2 ∧
    IBox W w.heap.size u s ∧ IBox W (w.heap.size + 1) Z3 N3 := by
  obtain ⟨W, hW, hg, hs, hI⟩ := ibox_new w u s
  refine ⟨_, rfl, ((Gr.refl w).alloc _).alloc _, by simp, ?_, ?_⟩
  · rw [← hW]; exact hI.gr (gr_box _ _)
  · rw [← hW]
    have := zibox W
    rw [hs] at this
    exact this
/-- The nine cells of an inbox lie in this box. -/
def IC (w : World) (b : Nat) (u : Nat → S3) (s : S3) : Prop := w.cell? ⟨b, 0, none⟩ = some (.slice (u 0).a (u 0).n (u 0).c) ∧ w.cell? ⟨b, 1, none⟩ = some (.slice (u 1).a (u 1).n (u 1).c) ∧ w.cell? ⟨b, 2, none⟩ = some (.slice (u 2).a (u 2).n (u 2).c) ∧ w.cell? ⟨b, 3, none⟩ = some (.slice (u 3).a (u 3).n (u 3).c) ∧ w.cell? ⟨b, 4, none⟩ = some (.slice (u 4).a (u 4).n (u 4).c) ∧ w.cell? ⟨b, 5, none⟩ = some (.slice (u 5).a (u 5).n (u 5).c) ∧ w.cell? ⟨b, 6, none⟩ = some (.slice (u 6).a (u 6).n (u 6).c) ∧ w.cell? ⟨b, 7, none⟩ = some (.slice (u 7).a (u 7).n (u 7).c) ∧ w.cell? ⟨b, 8, none⟩ = some (.slice s.a s.n s.c)
theorem IC.gr {w w' : World} {b : Nat} {u : Nat → S3} {s : S3} (h : IC w b u s) (g : Gr w w') : IC w' b u s := by
  obtain ⟨h0, h1, h2, h3, h4, h5, h6, h7, h8⟩ := h
  exact ⟨g.cell h0, g.cell h1, g.cell h2, g.cell h3, g.cell h4, g.cell h5, g.cell h6, g.cell h7, g.cell h8⟩
set_option maxRecDepth 100000 in
set_option maxHeartbeats 4000000 in
theorem icopy_any (u : Nat → S3) (s : S3) (l : LG) (L : List TX) (w : World) (h : LV w u l) (hx : XV w s.v L) (hf : FitC l) (hL : ∀ t ∈ L, FitO t) (hlen : L.length * 112 ≤ 140737488355328) :
    Calls Try.prog 36 #[.agg (icells u s)] w fun e w' => RetI (l, L) w e w' := by
  obtain ⟨W, hW, hg, hsz, hI, hZ⟩ := boxesIc u s w
  have HI := Lib.hid hI
  have HZ := Lib.hid hZ
  have HG := Lib.hid hg
  have HS := Lib.hid hsz
  have HC1 := Lib.hid (fun w1 (g : Gr W w1) => ccopy_any u l w1 ((h.gr hg).gr g) hf)
  have HC2 := Lib.hid (fun w1 (g : Gr W w1) => wcopies_any s.v L w1 ((hx.gr hg).gr g) hL hlen)
  obtain ⟨q0, q1, q2, q3, q4, q5, q6, q7, q8⟩ := hI.all
  clear hI hZ hg hsz h hx hf hL hlen
  go_enter Try.func36, Try.ntmps36
  go_upto_region 1 with (fail)
  rw [← hW]
  clear hW
  clear q0 q1 q2 q3 q4 q5 q6 q7 q8
  refine wp_region_held_drew (S := fun w' => IC w' w.heap.size u s) (by kernel_rfl) (IBox.all (HI.out.gr (Gr.refl _).drew)) (fun hHeld => ?_)
  refine hTake (i := 0) rfl (by kernel_rfl) (by kernel_rfl) (by kernel_rfl) (by kernel_rfl) (by assumption) ?_
  apply Exists.intro
  refine ⟨fun _ _ _ h => h, fun wq hq => ?_, ?_⟩
  · go_light
    obtain ⟨q0, q1, q2, q3, q4, q5, q6, q7, q8⟩ := hq
    go_simp
    try with_reducible rfl
    done
  try simp only [Act.put, List.setIfInBounds_toArray, List.set_cons_zero, List.set_cons_succ]
  refine hTake (i := 1) rfl (by kernel_rfl) (by kernel_rfl) (by kernel_rfl) (by kernel_rfl) (by assumption) ?_
  apply Exists.intro
  refine ⟨fun _ _ _ h => h, fun wq hq => ?_, ?_⟩
  · go_light
    obtain ⟨q0, q1, q2, q3, q4, q5, q6, q7, q8⟩ := hq
    go_simp
    try with_reducible rfl
    done
  try simp only [Act.put, List.setIfInBounds_toArray, List.set_cons_zero, List.set_cons_succ]
  refine hTake (i := 3) rfl (by kernel_rfl) (by kernel_rfl) (by kernel_rfl) (by kernel_rfl) (by assumption) ?_
  apply Exists.intro
  refine ⟨fun _ _ _ h => h, fun wq hq => ?_, ?_⟩
  · go_light
    obtain ⟨q0, q1, q2, q3, q4, q5, q6, q7, q8⟩ := hq
    go_simp
    try with_reducible rfl
    done
  try simp only [Act.put, List.setIfInBounds_toArray, List.set_cons_zero, List.set_cons_succ]
  refine hTake (i := 4) rfl (by kernel_rfl) (by kernel_rfl) (by kernel_rfl) (by kernel_rfl) (by assumption) ?_
  apply Exists.intro
  refine ⟨fun _ _ _ h => h, fun wq hq => ?_, ?_⟩
  · go_light
    obtain ⟨q0, q1, q2, q3, q4, q5, q6, q7, q8⟩ := hq
    go_simp
    try with_reducible rfl
    done
  try simp only [Act.put, List.setIfInBounds_toArray, List.set_cons_zero, List.set_cons_succ]
  have hg3 : Gr W W.drew := (Gr.refl _).drew
  generalize W.drew = W3 at *
  have HG3 := Lib.hid hg3
  have HS3 := Lib.hid hHeld
  clear hg3 hHeld
  refine wpAnyH_ready (rs := [2]) (by kernel_rfl) (by simp) ?_
  refine AllReadyH.cons rfl (fun K hK => ?_) AllReadyH.nil
  case' _ =>
    go_simp
    go_at_call 29
    refine (HC1.out _ HG3.out).mono ?_
    rintro e w4 ⟨u4, rfl, hl4, g4⟩
    go_wp2_with fail
    have HL4 := Lib.hid (hl4.le HG3.out.size)
    have HG4 := Lib.hid (HG3.out.trans g4)
    have HS4 := Lib.hid (HS3.out.gr g4)
    clear hl4 g4
    refine hK.out _ _ HS4.out (fun _ => ?_)
    clear hK K
    try simp only [Act.put, List.setIfInBounds_toArray, List.set_cons_zero, List.set_cons_succ]
    refine wpAnyH_ready (rs := [5]) (by kernel_rfl) (by simp) ?_
    refine AllReadyH.cons rfl (fun K hK => ?_) AllReadyH.nil
    go_simp
    go_at_call 33
    refine (HC2.out _ HG4.out).mono ?_
    rintro e w5 ⟨v5, rfl, hx5, g5⟩
    obtain ⟨A5, c5, hv5⟩ := hx5.form
    subst hv5
    obtain ⟨n5, hn5⟩ : ∃ n, n = L.length := ⟨_, rfl⟩
    rw [← hn5] at hx5 ⊢
    clear hn5
    go_wp2_with fail
    have HR5 : Hid (LN w5 W.heap.size u4 l ∧ XN w5 W.heap.size (S3.v ⟨A5, n5, c5⟩) L ∧ Gr W w5) := Lib.hid ⟨HL4.out.gr g5, hx5.le HG4.out.size, HG4.out.trans g5⟩
    have HS5 := Lib.hid (HS4.out.gr g5)
    clear hx5 g5
    refine hK.out _ _ HS5.out (fun _ => ?_)
    clear hK K
    try simp only [Act.put, List.setIfInBounds_toArray, List.set_cons_zero, List.set_cons_succ]
  all_goals
    refine wpAnyH_ready (rs := [6]) (by kernel_rfl) (by simp) ?_
    refine AllReadyH.cons rfl (fun K hK => ?_) AllReadyH.nil
    go_simp
    refine hK.out _ _ HS5.out (fun _ => ?_)
    clear hK K
    try simp only [Act.put, List.setIfInBounds_toArray, List.set_cons_zero, List.set_cons_succ]
    have hz := HZ.out.gr HR5.out.2.2
    have HZ5 := Lib.hid hz
    have z0 := hz.zero.1
    have z1 := hz.zero.2.1
    have z2 := hz.zero.2.2.1
    have z3 := hz.zero.2.2.2.1
    have z4 := hz.zero.2.2.2.2.1
    have z5 := hz.zero.2.2.2.2.2.1
    have z6 := hz.zero.2.2.2.2.2.2.1
    have z7 := hz.zero.2.2.2.2.2.2.2.1
    have z8 := hz.zero.2.2.2.2.2.2.2.2
    have f0 := hz.fz.1
    have f1 := hz.fz.2.1
    have f2 := hz.fz.2.2.1
    have f3 := hz.fz.2.2.2.1
    have f4 := hz.fz.2.2.2.2.1
    have f5 := hz.fz.2.2.2.2.2.1
    have f6 := hz.fz.2.2.2.2.2.2.1
    have f7 := hz.fz.2.2.2.2.2.2.2.1
    have f8 := hz.fz.2.2.2.2.2.2.2.2
    have HSB : Hid (IC (putI w5 (w.heap.size + 1) u4 ⟨A5, n5, c5⟩) w.heap.size u s) := Lib.hid ((HI.out.gr HR5.out.2.2).kpN (putI_kp _ _ _ _) (by omega)).all
    clear hz
    refine wpAnyH_ready (rs := [7]) (by kernel_rfl) (by simp) ?_
    refine AllReadyH.cons rfl (fun K hK => ?_) AllReadyH.nil
    go_simp
    refine hK.out _ (putI w5 (w.heap.size + 1) u4 ⟨A5, n5, c5⟩) HSB.out (fun _ => ?_)
    clear hK K z0 z1 z2 z3 z4 z5 z6 z7 z8 f0 f1 f2 f3 f4 f5 f6 f7 f8
    refine wpAnyH_done (by kernel_rfl) ?_ _
    try simp only [Act.put, List.setIfInBounds_toArray, List.set_cons_zero, List.set_cons_succ]
    obtain ⟨w6, hw6, hb6, hr6⟩ : ∃ x, x = putI w5 (w.heap.size + 1) u4 ⟨A5, n5, c5⟩ ∧ IBox x (w.heap.size + 1) u4 ⟨A5, n5, c5⟩ ∧ (LN x w.heap.size u4 l ∧ XN x w.heap.size (S3.v ⟨A5, n5, c5⟩) L ∧ Gr w x) :=
      ⟨_, rfl, putI_box HZ5.out, (HR5.out.1.kpI HZ5.out (putI_kp _ _ _ _)).le HG.out.size, (XN.kpI HR5.out.2.1 HZ5.out (putI_kp _ _ _ _)).le HG.out.size, putI_gr (HG.out.trans HR5.out.2.2) (Nat.le_succ _) _ _⟩
    rw [← hw6]
    have HR6 := Lib.hid hr6
    obtain ⟨z0, z1, z2, z3, z4, z5, z6, z7, z8⟩ := hb6.all
    clear hw6 hr6 hb6 HSB
    go_wp2_with fail
    exact bodyPost_ret (v := .agg (icells u4 ⟨A5, n5, c5⟩)) (by simp [results, Try.results36, go_sem, z0, z1, z2, z3, z4, z5, z6, z7, z8]) rfl ⟨u4, ⟨A5, n5, c5⟩, rfl, HR6.out⟩

theorem own_new1 (w : World) (t : TX) (s : S3) {B : Nat} (hB : B ≤ w.heap.size) : (w.alloc (.cells (tcs t s.v) 38)).ownsRow B 38 12 (.slice (some ⟨w.heap.size, 0, none⟩) 1 1) 1 (trcells (t, s)) := by
  refine ⟨rfl, .inr ⟨w.heap.size, 1, tcs t s.v, rfl, hB, heap_alloc _ _ _, Nat.le_refl _, by decide, rfl, ?_⟩⟩
  rfl
/-- hold's answer. -/
def RetH (r : IB × Nat) (w : World) (e : Ending) (w' : World) : Prop := ∃ u' s', e = .returned (.tuple #[.agg (icells u' s'), .int .i64 (r.2 : Int)]) ∧ LN w' w.heap.size u' r.1.1 ∧ XN w' w.heap.size s'.v r.1.2 ∧ Gr w w'
theorem boxesHo (u : Nat → S3) (s : S3) (t : TX) (v : Value) (w : World) : ∃ W, W = ((w.alloc (.cells (icells u s) 35)).alloc (.cells (tcs t v) 38)).alloc (.cells zic 35) ∧ Gr w W ∧ W.heap.size = w.heap.size + 3 ∧
    IBox W w.heap.size u s ∧ XFix W (w.heap.size + 1) 0 t v ∧ IBox W (w.heap.size + 1 + 1) Z3 N3 := by
  obtain ⟨W1, hW1, hg1, hs1, hI⟩ := ibox_new w u s
  obtain ⟨W2, hW2, hg2, hx2⟩ := xbox W1 t v
  have hs2 : W2.heap.size = w.heap.size + 1 + 1 := by rw [hW2]; simp [hs1]
  refine ⟨_, rfl, (((Gr.refl w).alloc _).alloc _).alloc _, by simp, ?_, ?_, ?_⟩
  · rw [← hW1, ← hW2]; exact (hI.gr hg2).gr (gr_box _ _)
  · rw [← hW1, ← hW2]
    rw [hs1] at hx2
    exact hx2.gr (gr_box _ _)
  · rw [← hW1, ← hW2]
    have := zibox W2
    rw [hs2] at this
    exact this
theorem nil_LN (w : World) (B : Nat) : LN w B Z3 nilL := LN.nil w B
theorem nil_XN (w : World) (B : Nat) : XN w B N3.v [] := ⟨[], rfl, World.ownsRow_nil _ _ _ _, fun _ h => (by cases h)⟩
theorem holdR_full {s : IB} {t : TX} (h : ∀ x, s.2[plcT t s.2]? = some x → numT x t = false) (hf : 64 ≤ s.2.length) : holdR s t = ((nilL, []), 4) := by
  unfold holdR
  cases hx : s.2[plcT t s.2]? with
  | none => simp only; rw [if_pos hf]
  | some x => simp only; rw [if_neg (by rw [h x hx]; simp), if_pos hf]
theorem holdR_new {s : IB} {t : TX} (h : ∀ x, s.2[plcT t s.2]? = some x → numT x t = false) (hf : ¬ 64 ≤ s.2.length) : holdR s t = ((s.1, s.2.insertIdx (plcT t s.2) t), 0) := by
  unfold holdR
  cases hx : s.2[plcT t s.2]? with
  | none => simp only; rw [if_neg hf]
  | some x => simp only; rw [if_neg (by rw [h x hx]; simp), if_neg hf]
theorem holdR_clash {s : IB} {t x : TX} (h : s.2[plcT t s.2]? = some x) (hn : numT x t = true) (hs : sameT x t = false) : holdR s t = ((nilL, []), 91) := by
  unfold holdR
  rw [h]
  simp only [hn, hs, if_true]
  rfl
theorem texts_insert (R : List TR) (i : Nat) (x : TR) : texts (R.insertIdx i x) = (texts R).insertIdx i x.1 := by
  induction R generalizing i with
  | nil => cases i <;> rfl
  | cons a R ih =>
    cases i with
    | zero => rfl
    | succ i =>
      show texts (a :: R.insertIdx i x) = (a.1 :: texts R).insertIdx (i + 1) x.1
      rw [List.insertIdx_succ_cons, ← ih]
      rfl
theorem mem_insert {α : Type} {R : List α} {i : Nat} {x y : α} (hi : i ≤ R.length) (h : y ∈ R.insertIdx i x) : y = x ∨ y ∈ R := (List.mem_insertIdx hi).1 h
set_option maxRecDepth 100000 in
set_option maxHeartbeats 8000000 in
theorem hold_any (u : Nat → S3) (A : Option Addr) (n c : Nat) (l : LG) (L : List TX) (t : TX) (At : Option Addr) (nt ct : Nat) (w : World) (h : LV w u l) (hx : XV w (.slice A n c) L) (hn : n = L.length) (hv : TOV w (.slice At nt ct) t.ops) (hf : FitC l) (hL : ∀ t ∈ L, FitT t) (ht : FitT t) (hlen : n ≤ 64) :
    Calls Try.prog 25 #[.agg (icells u ⟨A, n, c⟩), .agg (tcs t (.slice At nt ct))] w fun e w' => RetH (holdR (l, L) t) w e w' := by
  obtain ⟨W, hW, hg, hsz, hI, hX, hZ⟩ := boxesHo u ⟨A, n, c⟩ t (.slice At nt ct) w
  have HI := Lib.hid hI
  have HX := Lib.hid hX
  have HZ := Lib.hid hZ
  have HG := Lib.hid hg
  have HSZ := Lib.hid hsz
  have HLV := Lib.hid h
  have HXV := Lib.hid hx
  have HTV := Lib.hid hv
  have HF := Lib.hid hf
  have HL := Lib.hid hL
  have HT := Lib.hid ht
  have HN := Lib.hid hn
  obtain ⟨p, hp⟩ : ∃ p, p = plcT t L := ⟨_, rfl⟩
  have HP := Lib.hid hp
  have hpn : p ≤ n := by rw [hp, hn]; exact plcT_le t L
  have HPL := Lib.hid (fun w1 (g : Gr W w1) => place_any (.slice A n c) L t At nt ct w1 ((hx.gr hg).gr g) (by omega))
  rw [← hp] at HPL
  obtain ⟨q0, q1, q2, q3, q4, q5, q6, q7, q8⟩ := hI.all
  obtain ⟨x0, x1, x2, x3, x4, x5, x6, x7, x8, x9, x10, x11⟩ := hX
  clear hI hZ hg hsz h hx hv hf hL ht hn hp
  go_enter Try.func25, Try.ntmps25
  go_upto_region 1 with (fail)
  rw [← hW]
  clear hW
  go_wp2_with fail
  refine (HPL.out W (Gr.refl _)).mono ?_
  rintro e w1 ⟨rfl, g1⟩
  have HG1 := Lib.hid g1
  clear g1 q0 q1 q2 q3 q4 q5 q6 q7 q8 x0 x1 x2 x3 x4 x5 x6 x7 x8 x9 x10 x11
  have hp0 : (0 : Int) ≤ (p : Int) := Int.natCast_nonneg _
  by_cases hlt : p < n
  · have hpi : (p : Int) < (n : Int) := by omega
    have hpl : p < L.length := by rw [← HN.out]; exact hlt
    obtain ⟨A', c', hv, h1, h2, h3⟩ := HXV.out
    injection hv with e1 e2 e3
    obtain ⟨b, off, ha, xv, hx0, hx⟩ := h3 p hpl
    rw [← e1] at ha
    subst ha
    obtain ⟨x, hxe⟩ : ∃ x, x = L[p] := ⟨_, rfl⟩
    rw [← hxe] at hx0 hx
    obtain ⟨Ax, cx, rfl⟩ := tov_form hx0
    have HX0 := Lib.hid hx0
    obtain ⟨nx, hnx⟩ : ∃ n, n = x.ops.length := ⟨_, rfl⟩
    rw [← hnx] at hx HX0
    have HXX := Lib.hid hx
    have HAT : Hid (L[p]? = some x) := Lib.hid (by rw [hxe]; exact List.getElem?_eq_getElem hpl)
    obtain ⟨r, hr⟩ : ∃ r, r = numT x t := ⟨_, rfl⟩
    have HNU := Lib.hid (fun w1 => number_any x t Ax At nx cx nt ct w1)
    rw [← hr] at HNU
    have HR := Lib.hid hr
    obtain ⟨r2, hr2⟩ : ∃ r, r = sameT x t := ⟨_, rfl⟩
    have HSA := Lib.hid (fun w2 (g : Gr w w2) => same8_any x t (.slice Ax nx cx) (.slice At nt ct) w2 (HX0.out.gr g) (HTV.out.gr g))
    rw [← hr2] at HSA
    have HR2 := Lib.hid hr2
    clear hx0 hx hxe hnx hr hr2 h1 h2 h3 e1 e2 e3 hpl
    go_upto_region 2 with (fail)
    refine qRegion (fun w' => XFix w' b (off + p * 12) x (.slice Ax nx cx) ∧ XFix w' (w.heap.size + 1) 0 t (.slice At nt ct) ∧ IC w' w.heap.size u ⟨(some ⟨b, off, none⟩), n, c⟩ ∧ Gr W w') (by kernel_rfl) (by kernel_rfl) ⟨HXX.out.gr (HG.out.trans HG1.out.drew), HX.out.gr HG1.out.drew, IBox.all (HI.out.gr HG1.out.drew), HG1.out.drew⟩ ?_
    iterate 12
      refine qTake (by kernel_rfl) ?_
      apply Exists.intro
      refine ⟨fun wq hq => ?_, ?_⟩
      · go_light
        obtain ⟨⟨q0, q1, q2, q3, q4, q5, q6, q7, q8, q9, q10, q11⟩, ⟨p0, p1, p2, p3, p4, p5, p6, p7, p8, p9, p10, p11⟩, ⟨b0, b1, b2, b3, b4, b5, b6, b7, b8⟩, hg⟩ := hq
        go_simp
        try with_reducible rfl
        done
      try simp only [Act.put, List.setIfInBounds_toArray, List.set_cons_zero, List.set_cons_succ]
    refine qCall (by kernel_rfl) ?_
    apply Exists.intro
    refine ⟨?_, ?_⟩
    · apply Exists.intro
      apply Exists.intro
      refine ⟨fun wq => ?_, fun wq hq => ?_⟩
      · go_light
        go_simp
        exact ⟨rfl, rfl⟩
      · exact (HNU.out wq).mono fun e w'' ⟨he, hg⟩ => ⟨he, hq.1.gr hg, hq.2.1.gr hg, hq.2.2.1.gr hg, hq.2.2.2.trans hg⟩
    try simp only [Act.put, List.setIfInBounds_toArray, List.set_cons_zero, List.set_cons_succ]
    iterate 1
      refine qTake (by kernel_rfl) ?_
      apply Exists.intro
      refine ⟨fun wq hq => ?_, ?_⟩
      · go_light
        obtain ⟨⟨q0, q1, q2, q3, q4, q5, q6, q7, q8, q9, q10, q11⟩, ⟨p0, p1, p2, p3, p4, p5, p6, p7, p8, p9, p10, p11⟩, ⟨b0, b1, b2, b3, b4, b5, b6, b7, b8⟩, hg⟩ := hq
        go_simp
        try with_reducible rfl
        done
      try simp only [Act.put, List.setIfInBounds_toArray, List.set_cons_zero, List.set_cons_succ]
    refine qNil ?_
    rintro w2 ⟨-, -, -, hg2⟩
    have HG2 := Lib.hid hg2
    clear hg2
    rcases r with _ | _
    · have HEQ : Hid (∀ x, L[plcT t L]? = some x → numT x t = false) := Lib.hid fun y hy => by rw [← HP.out, HAT.out] at hy; injection hy with hy; rw [← hy]; exact HR.out.symm
      by_cases h64 : 64 ≤ n
      · have HEQ2 : Hid (holdR (l, L) t = ((nilL, []), 4)) := Lib.hid (holdR_full HEQ.out (by show 64 ≤ L.length; rw [← HN.out]; exact h64))
        have h64i : (64 : Int) ≤ (n : Int) := by omega
        obtain ⟨q0, q1, q2, q3, q4, q5, q6, q7, q8⟩ := (HI.out.gr HG2.out).all
        have h64d : decide ((64 : Int) ≤ (n : Int)) = true := decide_eq_true h64i
        obtain ⟨z0, z1, z2, z3, z4, z5, z6, z7, z8⟩ := (HZ.out.gr HG2.out).zero
        obtain ⟨f0, f1, f2, f3, f4, f5, f6, f7, f8⟩ := (HZ.out.gr HG2.out).fz
        go_wp2_with fail
        refine bodyPost_ret (v := .tuple #[.agg zic, .int .i64 4]) (by simp [results, Try.results25, go_sem, *]) rfl ?_
        refine ⟨Z3, N3, by rw [HEQ2.out]; rfl, by rw [HEQ2.out]; exact nil_LN _ _, by rw [HEQ2.out]; exact nil_XN _ _, ?_⟩
        exact putI_gr (HG.out.trans HG2.out) (show w.heap.size ≤ w.heap.size + 1 + 1 by omega) Z3 N3
      · have HEQ2 : Hid (holdR (l, L) t = ((l, L.insertIdx p t), 0)) := Lib.hid (by have := holdR_new (s := (l, L)) HEQ.out (by show ¬ 64 ≤ L.length; rw [← HN.out]; exact h64); rw [← HP.out] at this; exact this)
        have h64i : ¬ (64 : Int) ≤ (n : Int) := by omega
        have HEQ := HEQ2
        obtain ⟨R, hRt, hRs, hRo⟩ := sl_of_xv HXV.out
        have hRn : n = R.length := by rw [HN.out, ← hRt, texts_len]
        have HRN := Lib.hid hRn
        have HRT := Lib.hid hRt
        have HRO := Lib.hid hRo
        have HCL := Lib.hid (fun w1 (g : Gr w w1) => xclone_any (.slice (some ⟨b, off, none⟩) n c) R w1 (by have := hRs.gr g; exact this) (by omega))
        have HS2 : Hid (XFix w2 (w.heap.size + 1) 0 t (.slice At nt ct)) := Lib.hid (HX.out.gr HG2.out)
        have hb2 := (HI.out.gr HG2.out).all
        obtain ⟨q0, q1, q2, q3, q4, q5, q6, q7, q8⟩ := hb2
        clear hRn hRt hRo hRs
        go_upto_region 8 with (fail)
        clear q0 q1 q2 q3 q4 q5 q6 q7 q8
        refine wp_region_held_drew (S := fun w' => XFix w' (w.heap.size + 1) 0 t (.slice At nt ct)) (by kernel_rfl) (HS2.out.gr (Gr.refl _).drew) (fun hHeld => ?_)
        refine hTake (i := 0) rfl (by kernel_rfl) (by kernel_rfl) (by kernel_rfl) (by kernel_rfl) (by assumption) ?_
        apply Exists.intro
        refine ⟨fun _ _ _ h => h, fun wq hq => ?_, ?_⟩
        · go_light
          obtain ⟨p0, p1, p2, p3, p4, p5, p6, p7, p8, p9, p10, p11⟩ := hq
          go_simp
          try with_reducible rfl
          done
        try simp only [Act.put, List.setIfInBounds_toArray, List.set_cons_zero, List.set_cons_succ]
        refine hTake (i := 3) rfl (by kernel_rfl) (by kernel_rfl) (by kernel_rfl) (by kernel_rfl) (by assumption) ?_
        apply Exists.intro
        refine ⟨fun _ _ _ h => h, fun wq hq => ?_, ?_⟩
        · go_light
          obtain ⟨p0, p1, p2, p3, p4, p5, p6, p7, p8, p9, p10, p11⟩ := hq
          go_simp
          try with_reducible rfl
          done
        try simp only [Act.put, List.setIfInBounds_toArray, List.set_cons_zero, List.set_cons_succ]
        refine hTake (i := 4) rfl (by kernel_rfl) (by kernel_rfl) (by kernel_rfl) (by kernel_rfl) (by assumption) ?_
        apply Exists.intro
        refine ⟨fun _ _ _ h => h, fun wq hq => ?_, ?_⟩
        · go_light
          obtain ⟨p0, p1, p2, p3, p4, p5, p6, p7, p8, p9, p10, p11⟩ := hq
          go_simp
          try with_reducible rfl
          done
        try simp only [Act.put, List.setIfInBounds_toArray, List.set_cons_zero, List.set_cons_succ]
        have hg3 : Gr W w2.drew := HG2.out.drew
        generalize w2.drew = W3 at *
        have HG3 := Lib.hid hg3
        have HS3 := Lib.hid hHeld
        clear hg3 hHeld
        have HW3 : Hid (w.heap.size + 3 ≤ W3.heap.size) := Lib.hid (by have := HG3.out.size; have := HSZ.out; omega)
        refine wpAnyH_ready (rs := [1, 5]) (by kernel_rfl) (by simp) ?_
        refine AllReadyH.cons rfl (fun K hK => ?_) (AllReadyH.cons rfl (fun K hK => ?_) AllReadyH.nil)
        case' refine_2 =>
          have hg4 : Gr W3 (W3.alloc (.cells (tcs t (.slice At nt ct)) 38)) := (Gr.refl _).alloc _
          have HBS4 : Hid (World.ownsRow (W3.alloc (.cells (tcs t (.slice At nt ct)) 38)) (w.heap.size + 3) 38 12 (.slice (some ⟨W3.heap.size, 0, none⟩) 1 1) 1 (trcells (t, (⟨At, nt, ct⟩ : S3)))) := Lib.hid (own_new1 W3 t _ HW3.out)
          have HG4 := Lib.hid (HG3.out.trans hg4)
          have HS4 := Lib.hid (HS3.out.gr hg4)
          have HW4S : Hid (W3.heap.size < ((W3.alloc (.cells (tcs t (.slice At nt ct)) 38))).heap.size) := Lib.hid (by simp)
          go_simp
          clear hg4
          refine hK.out _ _ HS4.out (fun _ => ?_)
          clear hK K
          try simp only [Act.put, List.setIfInBounds_toArray, List.set_cons_zero, List.set_cons_succ]
          refine wpAnyH_ready (rs := [1]) (by kernel_rfl) (by simp) ?_
          refine AllReadyH.cons rfl (fun K hK => ?_) AllReadyH.nil
          have q8 := (HI.out.gr HG4.out).all.2.2.2.2.2.2.2.2
          go_simp
          refine hK.out _ _ HS4.out (fun _ => ?_)
          clear hK K q8
          try simp only [Act.put, List.setIfInBounds_toArray, List.set_cons_zero, List.set_cons_succ]
          refine wpAnyH_ready (rs := [2]) (by kernel_rfl) (by simp) ?_
          refine AllReadyH.cons rfl (fun K hK => ?_) AllReadyH.nil
          go_simp
          go_at_call 38
          refine (HCL.out _ (HG.out.trans HG4.out)).mono ?_
          rintro e w5 ⟨v5, rfl, hx5, g5⟩
          have HXO : Hid (XO w5 (w.heap.size + 3) v5 R) := Lib.hid (hx5.le (by have := HW3.out; have := HG4.out.size; have := HSZ.out; omega))
          have HG5 := Lib.hid (HG4.out.trans g5)
          have HS5 := Lib.hid (HS4.out.gr g5)
          have HBS : Hid (w5.ownsRow (w.heap.size + 3) 38 12 (.slice (some ⟨W3.heap.size, 0, none⟩) 1 1) 1 (trcells (t, (⟨At, nt, ct⟩ : S3)))) := Lib.hid (own_gr HBS4.out g5)
          have HVB : Hid (v5.ownBlock ≠ some W3.heap.size) := Lib.hid (fun e => by have := (hx5.lt _ e).1; have := HW4S.out; omega)
          have HB5 : Hid (w.heap.size + 3 ≤ w5.heap.size) := Lib.hid (by have := HG5.out.size; have := HSZ.out; omega)
          have HIN := Lib.hid (insert_anyX v5 R (w.heap.size + 3) p W3.heap.size (w.heap.size + 3) (t, (⟨At, nt, ct⟩ : S3)) w5 HXO.out HB5.out (by rw [← HRN.out]; omega) (by rw [← HRN.out]; omega) HVB.out HBS.out)
          obtain ⟨A5, c5, hv5, -, -⟩ := own_form hx5
          subst hv5
          rw [← HRN.out] at HIN HXO HVB ⊢
          clear hx5 g5
          go_wp2_with fail
          refine hK.out _ _ HS5.out (fun _ => ?_)
          clear hK K
          try simp only [Act.put, List.setIfInBounds_toArray, List.set_cons_zero, List.set_cons_succ]
        case' refine_1 =>
          have q8 := (HI.out.gr HG3.out).all.2.2.2.2.2.2.2.2
          go_simp
          refine hK.out _ _ HS3.out (fun _ => ?_)
          clear hK K q8
          try simp only [Act.put, List.setIfInBounds_toArray, List.set_cons_zero, List.set_cons_succ]
          refine wpAnyH_ready (rs := [2, 5]) (by kernel_rfl) (by simp) ?_
          refine AllReadyH.cons rfl (fun K hK => ?_) (AllReadyH.cons rfl (fun K hK => ?_) AllReadyH.nil)
          case' refine_1 =>
            go_simp
            go_at_call 38
            refine (HCL.out W3 (HG.out.trans HG3.out)).mono ?_
            rintro e w4 ⟨v5, rfl, hx5, g5⟩
            have HX4 : Hid (XO w4 (w.heap.size + 3) v5 R) := Lib.hid (hx5.le HW3.out)
            have HG4 := Lib.hid (HG3.out.trans g5)
            have HS4 := Lib.hid (HS3.out.gr g5)
            have HW4 : Hid (w.heap.size + 3 ≤ w4.heap.size) := Lib.hid (by have := HG4.out.size; have := HSZ.out; omega)
            have hg5 : Gr w4 (w4.alloc (.cells (tcs t (.slice At nt ct)) 38)) := (Gr.refl _).alloc _
            have HBS : Hid (World.ownsRow (w4.alloc (.cells (tcs t (.slice At nt ct)) 38)) (w.heap.size + 3) 38 12 (.slice (some ⟨w4.heap.size, 0, none⟩) 1 1) 1 (trcells (t, (⟨At, nt, ct⟩ : S3)))) := Lib.hid (own_new1 w4 t _ HW4.out)
            have HG5 := Lib.hid (HG4.out.trans hg5)
            have HS5 := Lib.hid (HS4.out.gr hg5)
            have HXO : Hid (XO (w4.alloc (.cells (tcs t (.slice At nt ct)) 38)) (w.heap.size + 3) v5 R) := Lib.hid (HX4.out.gr hg5)
            have HB5 : Hid (w.heap.size + 3 ≤ ((w4.alloc (.cells (tcs t (.slice At nt ct)) 38))).heap.size) := Lib.hid (by have := HG5.out.size; have := HSZ.out; omega)
            have HVB : Hid (v5.ownBlock ≠ some w4.heap.size) := Lib.hid (fun e => by have := (HX4.out.lt _ e).2; omega)
            have HIN := Lib.hid (insert_anyX v5 R (w.heap.size + 3) p w4.heap.size (w.heap.size + 3) (t, (⟨At, nt, ct⟩ : S3)) (w4.alloc (.cells (tcs t (.slice At nt ct)) 38)) HXO.out HB5.out (by rw [← HRN.out]; omega) (by rw [← HRN.out]; omega) HVB.out HBS.out)
            obtain ⟨A5, c5, hv5, -, -⟩ := own_form hx5
            subst hv5
            rw [← HRN.out] at HIN HXO HVB ⊢
            clear hx5 g5 hg5
            go_wp2_with fail
            refine hK.out _ _ HS4.out (fun _ => ?_)
            clear hK K
            try simp only [Act.put, List.setIfInBounds_toArray, List.set_cons_zero, List.set_cons_succ]
            refine wpAnyH_ready (rs := [5]) (by kernel_rfl) (by simp) ?_
            refine AllReadyH.cons rfl (fun K hK => ?_) AllReadyH.nil
            go_simp
            refine hK.out _ _ HS5.out (fun _ => ?_)
            clear hK K
            try simp only [Act.put, List.setIfInBounds_toArray, List.set_cons_zero, List.set_cons_succ]
          case' refine_2 =>
            have hg4 : Gr W3 (W3.alloc (.cells (tcs t (.slice At nt ct)) 38)) := (Gr.refl _).alloc _
            have HBS4 : Hid (World.ownsRow (W3.alloc (.cells (tcs t (.slice At nt ct)) 38)) (w.heap.size + 3) 38 12 (.slice (some ⟨W3.heap.size, 0, none⟩) 1 1) 1 (trcells (t, (⟨At, nt, ct⟩ : S3)))) := Lib.hid (own_new1 W3 t _ HW3.out)
            have HG4 := Lib.hid (HG3.out.trans hg4)
            have HS4 := Lib.hid (HS3.out.gr hg4)
            have HW4S : Hid (W3.heap.size < ((W3.alloc (.cells (tcs t (.slice At nt ct)) 38))).heap.size) := Lib.hid (by simp)
            go_simp
            clear hg4
            refine hK.out _ _ HS4.out (fun _ => ?_)
            clear hK K
            try simp only [Act.put, List.setIfInBounds_toArray, List.set_cons_zero, List.set_cons_succ]
            refine wpAnyH_ready (rs := [2]) (by kernel_rfl) (by simp) ?_
            refine AllReadyH.cons rfl (fun K hK => ?_) AllReadyH.nil
            go_simp
            go_at_call 38
            refine (HCL.out _ (HG.out.trans HG4.out)).mono ?_
            rintro e w5 ⟨v5, rfl, hx5, g5⟩
            have HXO : Hid (XO w5 (w.heap.size + 3) v5 R) := Lib.hid (hx5.le (by have := HW3.out; have := HG4.out.size; have := HSZ.out; omega))
            have HG5 := Lib.hid (HG4.out.trans g5)
            have HS5 := Lib.hid (HS4.out.gr g5)
            have HBS : Hid (w5.ownsRow (w.heap.size + 3) 38 12 (.slice (some ⟨W3.heap.size, 0, none⟩) 1 1) 1 (trcells (t, (⟨At, nt, ct⟩ : S3)))) := Lib.hid (own_gr HBS4.out g5)
            have HVB : Hid (v5.ownBlock ≠ some W3.heap.size) := Lib.hid (fun e => by have := (hx5.lt _ e).1; have := HW4S.out; omega)
            have HB5 : Hid (w.heap.size + 3 ≤ w5.heap.size) := Lib.hid (by have := HG5.out.size; have := HSZ.out; omega)
            have HIN := Lib.hid (insert_anyX v5 R (w.heap.size + 3) p W3.heap.size (w.heap.size + 3) (t, (⟨At, nt, ct⟩ : S3)) w5 HXO.out HB5.out (by rw [← HRN.out]; omega) (by rw [← HRN.out]; omega) HVB.out HBS.out)
            obtain ⟨A5, c5, hv5, -, -⟩ := own_form hx5
            subst hv5
            rw [← HRN.out] at HIN HXO HVB ⊢
            clear hx5 g5
            go_wp2_with fail
            refine hK.out _ _ HS5.out (fun _ => ?_)
            clear hK K
            try simp only [Act.put, List.setIfInBounds_toArray, List.set_cons_zero, List.set_cons_succ]
        all_goals
          refine wpAnyH_ready (rs := [6]) (by kernel_rfl) (by simp) ?_
          refine AllReadyH.cons rfl (fun K hK => ?_) AllReadyH.nil
          go_simp
          go_at_call 37
          refine HIN.out.mono ?_
          rintro e w6 ⟨v6, rfl, hx6, -, k6⟩
          have HF6 : Hid (∀ g, (Value.slice A5 n c5).ownBlock = some g → w.heap.size + 3 ≤ g) := Lib.hid fun g hg => (World.ownsRow.lt (by have := HXO.out; unfold XO at this; rw [← HRN.out] at this; exact this) g hg).1
          have hib6 : IBox w6 w.heap.size u ⟨some ⟨b, off, none⟩, n, c⟩ := (HI.out.gr HG5.out).keep (k6.block _ (HI.out.gr HG5.out).lt (fun e => by have := HF6.out _ e.symm; omega))
          have hs6 : XFix w6 (w.heap.size + 1) 0 t (.slice At nt ct) := (HX.out.gr HG5.out).kp k6 (fun e => by have := HF6.out _ e; omega)
          have hz6 : IBox w6 (w.heap.size + 1 + 1) Z3 N3 := (HZ.out.gr HG5.out).keep (k6.block _ (HZ.out.gr HG5.out).lt (fun e => by have := HF6.out _ e.symm; omega))
          have hg6 : Gr W w6 := ⟨k6.os.trans HG5.out.os, k6.tape.trans HG5.out.tape, k6.output.trans HG5.out.output, Nat.le_trans HG5.out.size k6.size, fun x hx => (k6.block x (Nat.lt_of_lt_of_le hx HG5.out.size) (fun e => by have := HF6.out _ e.symm; have := HSZ.out; omega)).trans (HG5.out.block x hx)⟩
          obtain ⟨A6, c6, hv6, -, -⟩ := own_form hx6
          subst hv6
          have hrl : (R.insertIdx p (t, (⟨At, nt, ct⟩ : S3))).length = n + 1 := by rw [List.length_insertIdx, if_pos (by rw [← HRN.out]; exact hpn), ← HRN.out]
          have HRL := Lib.hid hrl
          obtain ⟨n6, hn6⟩ : ∃ x, x = (R.insertIdx p (t, (⟨At, nt, ct⟩ : S3))).length := ⟨_, rfl⟩
          rw [← hn6] at hrl ⊢
          have HN6 := Lib.hid hn6
          have HX6 := Lib.hid hx6
          have HIB6 := Lib.hid hib6
          have HS6 := Lib.hid hs6
          have HZ6 := Lib.hid hz6
          have HG6 := Lib.hid hg6
          have HN61 := Lib.hid hrl
          have HS7 : Hid (XFix (w6.setCell ⟨w.heap.size, 8, none⟩ (.slice A6 n6 c6)) (w.heap.size + 1) 0 t (.slice At nt ct)) := Lib.hid (hs6.far (by show w.heap.size ≠ w.heap.size + 1; omega) _)
          have q8 := hib6.all.2.2.2.2.2.2.2.2
          have y8 := hib6.fz.2.2.2.2.2.2.2.2
          have HQ8 := Lib.hid (And.intro q8 y8)
          clear hx6 hib6 hs6 hz6 hg6 k6 hrl hn6 q8 y8
          go_wp2_with fail
          refine hK.out _ _ HS6.out (fun _ => ?_)
          clear hK K
          try simp only [Act.put, List.setIfInBounds_toArray, List.set_cons_zero, List.set_cons_succ]
          refine wpAnyH_ready (rs := [7]) (by kernel_rfl) (by simp) ?_
          refine AllReadyH.cons rfl (fun K hK => ?_) AllReadyH.nil
          go_simp
          refine hK.out _ _ HS6.out (fun _ => ?_)
          clear hK K
          try simp only [Act.put, List.setIfInBounds_toArray, List.set_cons_zero, List.set_cons_succ]
          refine wpAnyH_ready (rs := [8]) (by kernel_rfl) (by simp) ?_
          refine AllReadyH.cons rfl (fun K hK => ?_) AllReadyH.nil
          have q8 := HQ8.out.1
          have y8 := HQ8.out.2
          go_simp
          refine hK.out _ _ HS7.out (fun _ => ?_)
          clear hK K q8 y8
          refine wpAnyH_done (by kernel_rfl) ?_ _
          try simp only [Act.put, List.setIfInBounds_toArray, List.set_cons_zero, List.set_cons_succ]
          obtain ⟨w7, hw7, hb7, hg7, hz7, hx7⟩ : ∃ x, x = w6.setCell ⟨w.heap.size, 8, none⟩ (.slice A6 n6 c6) ∧ IBox x w.heap.size u ⟨A6, n6, c6⟩ ∧ Gr w x ∧ IBox x (w.heap.size + 1 + 1) Z3 N3 ∧ XO x (w.heap.size + 3) (.slice A6 n6 c6) (R.insertIdx p (t, (⟨At, nt, ct⟩ : S3))) :=
            ⟨_, rfl, ⟨by rw [block_setCell HIB6.out.box]; rfl⟩, (HG.out.trans HG6.out).setCell (Nat.le_refl _) _, ⟨set_obj_other HZ6.out.box (by omega) _⟩, by
              have := HX6.out
              rw [← HN6.out] at this
              exact own_set_obj this HIB6.out.box (by decide) _⟩
          rw [← hw7]
          have HX7 : Hid (XV w7 (.slice A6 n6 c6) (L.insertIdx p t)) := Lib.hid (by
            have h1 := hx7.xv (fun r hr => by
              rcases mem_insert (by rw [← HRN.out]; exact hpn) hr with h | h
              · rw [h]; exact HTV.out.gr hg7
              · exact (HRO.out r h).gr hg7)
            rw [texts_insert, HRT.out] at h1
            exact h1)
          have HCO := Lib.hid (icopy_any u ⟨A6, n6, c6⟩ l (L.insertIdx p t) w7 (HLV.out.gr hg7) HX7.out HF.out (fun y hy => by
            rcases mem_insert (by rw [← HN.out]; exact hpn) hy with h | h
            · rw [h]; exact HT.out.2
            · exact (HL.out y h).2) (by rw [List.length_insertIdx, if_pos (by rw [← HN.out]; exact hpn), ← HN.out]; omega))
          obtain ⟨q0, q1, q2, q3, q4, q5, q6, q7, q8⟩ := hb7.all
          have HG7 := Lib.hid hg7
          have HZ7 := Lib.hid hz7
          clear hw7 hb7 hg7 hz7 hx7
          go_wp2_with fail
          refine HCO.out.mono ?_
          rintro e w8 ⟨u8, ⟨A8, n8, c8⟩, rfl, hl8, hx8, g8⟩
          have hz := HZ7.out.gr g8
          have HZ9 := Lib.hid hz
          have HFIN : Hid (LN (putI w8 (w.heap.size + 1 + 1) u8 ⟨A8, n8, c8⟩) w.heap.size u8 (holdR (l, L) t).1.1 ∧ XN (putI w8 (w.heap.size + 1 + 1) u8 ⟨A8, n8, c8⟩) w.heap.size (S3.v ⟨A8, n8, c8⟩) (holdR (l, L) t).1.2 ∧ Gr w (putI w8 (w.heap.size + 1 + 1) u8 ⟨A8, n8, c8⟩)) := Lib.hid (by
            rw [HEQ.out]
            exact ⟨(hl8.kpI HZ9.out (putI_kp _ _ _ _)).le HG7.out.size, (hx8.kpI HZ9.out (putI_kp _ _ _ _)).le HG7.out.size, putI_gr (HG7.out.trans g8) (show w.heap.size ≤ w.heap.size + 1 + 1 by omega) _ _⟩)
          obtain ⟨z0, z1, z2, z3, z4, z5, z6, z7, z8⟩ := hz.zero
          obtain ⟨f0, f1, f2, f3, f4, f5, f6, f7, f8⟩ := hz.fz
          clear hz hl8 hx8 g8 q0 q1 q2 q3 q4 q5 q6 q7 q8
          go_wp2_with fail
          refine bodyPost_ret (v := .tuple #[.agg (icells u8 ⟨A8, n8, c8⟩), .int .i64 0]) (by simp [results, Try.results25, go_sem, z0, z1, z2, z3, z4, z5, z6, z7, z8]) rfl ?_
          exact ⟨u8, ⟨A8, n8, c8⟩, by rw [HEQ.out]; rfl, HFIN.out⟩
    · go_upto_region 3 with (fail)
      refine qRegion (fun w' => XFix w' b (off + p * 12) x (.slice Ax nx cx) ∧ XFix w' (w.heap.size + 1) 0 t (.slice At nt ct) ∧ IC w' w.heap.size u ⟨(some ⟨b, off, none⟩), n, c⟩ ∧ Gr W w') (by kernel_rfl) (by kernel_rfl) ⟨HXX.out.gr (HG.out.trans HG2.out.drew), HX.out.gr HG2.out.drew, IBox.all (HI.out.gr HG2.out.drew), HG2.out.drew⟩ ?_
      iterate 6
        refine qTake (by kernel_rfl) ?_
        apply Exists.intro
        refine ⟨fun wq hq => ?_, ?_⟩
        · go_light
          obtain ⟨⟨q0, q1, q2, q3, q4, q5, q6, q7, q8, q9, q10, q11⟩, ⟨p0, p1, p2, p3, p4, p5, p6, p7, p8, p9, p10, p11⟩, ⟨b0, b1, b2, b3, b4, b5, b6, b7, b8⟩, hg⟩ := hq
          go_simp
          try with_reducible rfl
          done
        try simp only [Act.put, List.setIfInBounds_toArray, List.set_cons_zero, List.set_cons_succ]
      refine qCall (by kernel_rfl) ?_
      apply Exists.intro
      refine ⟨?_, ?_⟩
      · apply Exists.intro
        apply Exists.intro
        refine ⟨fun wq => ?_, fun wq hq => ?_⟩
        · go_light
          go_simp
          exact ⟨rfl, rfl⟩
        · exact (HSA.out wq (HG.out.trans hq.2.2.2)).mono fun e w'' ⟨he, hg⟩ => ⟨he, hq.1.gr hg, hq.2.1.gr hg, hq.2.2.1.gr hg, hq.2.2.2.trans hg⟩
      try simp only [Act.put, List.setIfInBounds_toArray, List.set_cons_zero, List.set_cons_succ]
      iterate 1
        refine qTake (by kernel_rfl) ?_
        apply Exists.intro
        refine ⟨fun wq hq => ?_, ?_⟩
        · go_light
          obtain ⟨⟨q0, q1, q2, q3, q4, q5, q6, q7, q8, q9, q10, q11⟩, ⟨p0, p1, p2, p3, p4, p5, p6, p7, p8, p9, p10, p11⟩, ⟨b0, b1, b2, b3, b4, b5, b6, b7, b8⟩, hg⟩ := hq
          go_simp
          try with_reducible rfl
          done
        try simp only [Act.put, List.setIfInBounds_toArray, List.set_cons_zero, List.set_cons_succ]
      refine qNil ?_
      rintro w3 ⟨-, -, -, hg3⟩
      have HG3 := Lib.hid hg3
      clear hg3
      rcases r2 with _ | _
      · have HEQ : Hid (holdR (l, L) t = ((nilL, []), 91)) := Lib.hid (holdR_clash (x := x) (by show L[plcT t L]? = _; rw [← HP.out]; exact HAT.out) HR.out.symm HR2.out.symm)
        obtain ⟨z0, z1, z2, z3, z4, z5, z6, z7, z8⟩ := (HZ.out.gr HG3.out).zero
        obtain ⟨f0, f1, f2, f3, f4, f5, f6, f7, f8⟩ := (HZ.out.gr HG3.out).fz
        go_wp2_with fail
        refine bodyPost_ret (v := .tuple #[.agg zic, .int .i64 91]) (by simp [results, Try.results25, go_sem, *]) rfl ?_
        refine ⟨Z3, N3, by rw [HEQ.out]; rfl, by rw [HEQ.out]; exact nil_LN _ _, by rw [HEQ.out]; exact nil_XN _ _, ?_⟩
        exact putI_gr (HG.out.trans HG3.out) (show w.heap.size ≤ w.heap.size + 1 + 1 by omega) Z3 N3
      · have HEQ : Hid (holdR (l, L) t = ((l, L), 0)) := Lib.hid (holdR_there (x := x) (by show L[plcT t L]? = _; rw [← HP.out]; exact HAT.out) HR.out.symm HR2.out.symm)
        have HCO := Lib.hid (icopy_any u ⟨some ⟨b, off, none⟩, n, c⟩ l L w3 (HLV.out.gr (HG.out.trans HG3.out)) (HXV.out.gr (HG.out.trans HG3.out)) HF.out (fun t ht => (HL.out t ht).2) (by rw [← HN.out]; omega))
        obtain ⟨q0, q1, q2, q3, q4, q5, q6, q7, q8⟩ := (HI.out.gr HG3.out).all
        go_wp2_with fail
        refine HCO.out.mono ?_
        rintro e w4 ⟨u4, ⟨A4, n4, c4⟩, rfl, hl4, hx4, g4⟩
        have HL4 := Lib.hid hl4
        have HX4 := Lib.hid hx4
        have HG4 := Lib.hid (HG3.out.trans g4)
        clear hl4 hx4 g4 q0 q1 q2 q3 q4 q5 q6 q7 q8
        have HBW : Hid (w.heap.size ≤ w3.heap.size) := Lib.hid (HG.out.trans HG3.out).size
        have hz := HZ.out.gr HG4.out
        have HZ9 := Lib.hid hz
        have HFIN : Hid (LN (putI w4 (w.heap.size + 1 + 1) u4 ⟨A4, n4, c4⟩) w.heap.size u4 (holdR (l, L) t).1.1 ∧ XN (putI w4 (w.heap.size + 1 + 1) u4 ⟨A4, n4, c4⟩) w.heap.size (S3.v ⟨A4, n4, c4⟩) (holdR (l, L) t).1.2 ∧ Gr w (putI w4 (w.heap.size + 1 + 1) u4 ⟨A4, n4, c4⟩)) := Lib.hid (by
          rw [HEQ.out]
          exact ⟨(HL4.out.kpI HZ9.out (putI_kp _ _ _ _)).le HBW.out, (XN.kpI HX4.out HZ9.out (putI_kp _ _ _ _)).le HBW.out, putI_gr (HG.out.trans HG4.out) (show w.heap.size ≤ w.heap.size + 1 + 1 by omega) _ _⟩)
        obtain ⟨z0, z1, z2, z3, z4, z5, z6, z7, z8⟩ := hz.zero
        obtain ⟨f0, f1, f2, f3, f4, f5, f6, f7, f8⟩ := hz.fz
        clear hz
        go_wp2_with fail
        refine bodyPost_ret (v := .tuple #[.agg (icells u4 ⟨A4, n4, c4⟩), .int .i64 0]) (by simp [results, Try.results25, go_sem, z0, z1, z2, z3, z4, z5, z6, z7, z8]) rfl ?_
        exact ⟨u4, ⟨A4, n4, c4⟩, by rw [HEQ.out]; rfl, HFIN.out⟩
  · obtain rfl : p = n := by omega
    have hpi : ¬ (p : Int) < (p : Int) := by omega
    go_upto_region 2 with (fail)
    refine qRegion (fun w' => IC w' w.heap.size u ⟨A, p, c⟩ ∧ Gr W w') (by kernel_rfl) (by kernel_rfl) ⟨IBox.all (HI.out.gr HG1.out.drew), HG1.out.drew⟩ ?_
    iterate 6
      refine qTake (by kernel_rfl) ?_
      apply Exists.intro
      refine ⟨fun wq hq => ?_, ?_⟩
      · go_light
        obtain ⟨⟨b0, b1, b2, b3, b4, b5, b6, b7, b8⟩, hg⟩ := hq
        go_simp
        try with_reducible rfl
        done
      try simp only [Act.put, List.setIfInBounds_toArray, List.set_cons_zero, List.set_cons_succ]
    iterate 7
      refine qSkip (by kernel_rfl) ?_
      try simp only [Act.put, List.setIfInBounds_toArray, List.set_cons_zero, List.set_cons_succ]
    iterate 1
      refine qTake (by kernel_rfl) ?_
      apply Exists.intro
      refine ⟨fun wq hq => ?_, ?_⟩
      · go_light
        obtain ⟨⟨b0, b1, b2, b3, b4, b5, b6, b7, b8⟩, hg⟩ := hq
        go_simp
        try with_reducible rfl
        done
      try simp only [Act.put, List.setIfInBounds_toArray, List.set_cons_zero, List.set_cons_succ]
    refine qNil ?_
    rintro w2 ⟨-, hg2⟩
    have HG2 := Lib.hid hg2
    clear hg2
    have HEQ : Hid (∀ x, L[plcT t L]? = some x → numT x t = false) := Lib.hid fun y hy => by rw [← HP.out, HN.out, List.getElem?_eq_none (Nat.le_refl _)] at hy; cases hy
    by_cases h64 : 64 ≤ p
    · have HEQ2 : Hid (holdR (l, L) t = ((nilL, []), 4)) := Lib.hid (holdR_full HEQ.out (by show 64 ≤ L.length; rw [← HN.out]; exact h64))
      have h64i : (64 : Int) ≤ (p : Int) := by omega
      obtain ⟨q0, q1, q2, q3, q4, q5, q6, q7, q8⟩ := (HI.out.gr HG2.out).all
      have h64d : decide ((64 : Int) ≤ (p : Int)) = true := decide_eq_true h64i
      obtain ⟨z0, z1, z2, z3, z4, z5, z6, z7, z8⟩ := (HZ.out.gr HG2.out).zero
      obtain ⟨f0, f1, f2, f3, f4, f5, f6, f7, f8⟩ := (HZ.out.gr HG2.out).fz
      go_wp2_with fail
      refine bodyPost_ret (v := .tuple #[.agg zic, .int .i64 4]) (by simp [results, Try.results25, go_sem, *]) rfl ?_
      refine ⟨Z3, N3, by rw [HEQ2.out]; rfl, by rw [HEQ2.out]; exact nil_LN _ _, by rw [HEQ2.out]; exact nil_XN _ _, ?_⟩
      exact putI_gr (HG.out.trans HG2.out) (show w.heap.size ≤ w.heap.size + 1 + 1 by omega) Z3 N3
    · have HEQ2 : Hid (holdR (l, L) t = ((l, L.insertIdx p t), 0)) := Lib.hid (by have := holdR_new (s := (l, L)) HEQ.out (by show ¬ 64 ≤ L.length; rw [← HN.out]; exact h64); rw [← HP.out] at this; exact this)
      have h64i : ¬ (64 : Int) ≤ (p : Int) := by omega
      have HEQ := HEQ2
      obtain ⟨R, hRt, hRs, hRo⟩ := sl_of_xv HXV.out
      have hRn : p = R.length := by rw [HN.out, ← hRt, texts_len]
      have HRN := Lib.hid hRn
      have HRT := Lib.hid hRt
      have HRO := Lib.hid hRo
      have HCL := Lib.hid (fun w1 (g : Gr w w1) => xclone_any (.slice A p c) R w1 (by have := hRs.gr g; exact this) (by omega))
      have HS2 : Hid (XFix w2 (w.heap.size + 1) 0 t (.slice At nt ct)) := Lib.hid (HX.out.gr HG2.out)
      have hb2 := (HI.out.gr HG2.out).all
      obtain ⟨q0, q1, q2, q3, q4, q5, q6, q7, q8⟩ := hb2
      clear hRn hRt hRo hRs
      go_upto_region 8 with (fail)
      clear q0 q1 q2 q3 q4 q5 q6 q7 q8
      refine wp_region_held_drew (S := fun w' => XFix w' (w.heap.size + 1) 0 t (.slice At nt ct)) (by kernel_rfl) (HS2.out.gr (Gr.refl _).drew) (fun hHeld => ?_)
      refine hTake (i := 0) rfl (by kernel_rfl) (by kernel_rfl) (by kernel_rfl) (by kernel_rfl) (by assumption) ?_
      apply Exists.intro
      refine ⟨fun _ _ _ h => h, fun wq hq => ?_, ?_⟩
      · go_light
        obtain ⟨p0, p1, p2, p3, p4, p5, p6, p7, p8, p9, p10, p11⟩ := hq
        go_simp
        try with_reducible rfl
        done
      try simp only [Act.put, List.setIfInBounds_toArray, List.set_cons_zero, List.set_cons_succ]
      refine hTake (i := 3) rfl (by kernel_rfl) (by kernel_rfl) (by kernel_rfl) (by kernel_rfl) (by assumption) ?_
      apply Exists.intro
      refine ⟨fun _ _ _ h => h, fun wq hq => ?_, ?_⟩
      · go_light
        obtain ⟨p0, p1, p2, p3, p4, p5, p6, p7, p8, p9, p10, p11⟩ := hq
        go_simp
        try with_reducible rfl
        done
      try simp only [Act.put, List.setIfInBounds_toArray, List.set_cons_zero, List.set_cons_succ]
      refine hTake (i := 4) rfl (by kernel_rfl) (by kernel_rfl) (by kernel_rfl) (by kernel_rfl) (by assumption) ?_
      apply Exists.intro
      refine ⟨fun _ _ _ h => h, fun wq hq => ?_, ?_⟩
      · go_light
        obtain ⟨p0, p1, p2, p3, p4, p5, p6, p7, p8, p9, p10, p11⟩ := hq
        go_simp
        try with_reducible rfl
        done
      try simp only [Act.put, List.setIfInBounds_toArray, List.set_cons_zero, List.set_cons_succ]
      have hg3 : Gr W w2.drew := HG2.out.drew
      generalize w2.drew = W3 at *
      have HG3 := Lib.hid hg3
      have HS3 := Lib.hid hHeld
      clear hg3 hHeld
      have HW3 : Hid (w.heap.size + 3 ≤ W3.heap.size) := Lib.hid (by have := HG3.out.size; have := HSZ.out; omega)
      refine wpAnyH_ready (rs := [1, 5]) (by kernel_rfl) (by simp) ?_
      refine AllReadyH.cons rfl (fun K hK => ?_) (AllReadyH.cons rfl (fun K hK => ?_) AllReadyH.nil)
      case' refine_2 =>
        have hg4 : Gr W3 (W3.alloc (.cells (tcs t (.slice At nt ct)) 38)) := (Gr.refl _).alloc _
        have HBS4 : Hid (World.ownsRow (W3.alloc (.cells (tcs t (.slice At nt ct)) 38)) (w.heap.size + 3) 38 12 (.slice (some ⟨W3.heap.size, 0, none⟩) 1 1) 1 (trcells (t, (⟨At, nt, ct⟩ : S3)))) := Lib.hid (own_new1 W3 t _ HW3.out)
        have HG4 := Lib.hid (HG3.out.trans hg4)
        have HS4 := Lib.hid (HS3.out.gr hg4)
        have HW4S : Hid (W3.heap.size < ((W3.alloc (.cells (tcs t (.slice At nt ct)) 38))).heap.size) := Lib.hid (by simp)
        go_simp
        clear hg4
        refine hK.out _ _ HS4.out (fun _ => ?_)
        clear hK K
        try simp only [Act.put, List.setIfInBounds_toArray, List.set_cons_zero, List.set_cons_succ]
        refine wpAnyH_ready (rs := [1]) (by kernel_rfl) (by simp) ?_
        refine AllReadyH.cons rfl (fun K hK => ?_) AllReadyH.nil
        have q8 := (HI.out.gr HG4.out).all.2.2.2.2.2.2.2.2
        go_simp
        refine hK.out _ _ HS4.out (fun _ => ?_)
        clear hK K q8
        try simp only [Act.put, List.setIfInBounds_toArray, List.set_cons_zero, List.set_cons_succ]
        refine wpAnyH_ready (rs := [2]) (by kernel_rfl) (by simp) ?_
        refine AllReadyH.cons rfl (fun K hK => ?_) AllReadyH.nil
        go_simp
        go_at_call 38
        refine (HCL.out _ (HG.out.trans HG4.out)).mono ?_
        rintro e w5 ⟨v5, rfl, hx5, g5⟩
        have HXO : Hid (XO w5 (w.heap.size + 3) v5 R) := Lib.hid (hx5.le (by have := HW3.out; have := HG4.out.size; have := HSZ.out; omega))
        have HG5 := Lib.hid (HG4.out.trans g5)
        have HS5 := Lib.hid (HS4.out.gr g5)
        have HBS : Hid (w5.ownsRow (w.heap.size + 3) 38 12 (.slice (some ⟨W3.heap.size, 0, none⟩) 1 1) 1 (trcells (t, (⟨At, nt, ct⟩ : S3)))) := Lib.hid (own_gr HBS4.out g5)
        have HVB : Hid (v5.ownBlock ≠ some W3.heap.size) := Lib.hid (fun e => by have := (hx5.lt _ e).1; have := HW4S.out; omega)
        have HB5 : Hid (w.heap.size + 3 ≤ w5.heap.size) := Lib.hid (by have := HG5.out.size; have := HSZ.out; omega)
        have HIN := Lib.hid (insert_anyX v5 R (w.heap.size + 3) p W3.heap.size (w.heap.size + 3) (t, (⟨At, nt, ct⟩ : S3)) w5 HXO.out HB5.out (by rw [← HRN.out]; omega) (by rw [← HRN.out]; omega) HVB.out HBS.out)
        obtain ⟨A5, c5, hv5, -, -⟩ := own_form hx5
        subst hv5
        rw [← HRN.out] at HIN HXO HVB ⊢
        clear hx5 g5
        go_wp2_with fail
        refine hK.out _ _ HS5.out (fun _ => ?_)
        clear hK K
        try simp only [Act.put, List.setIfInBounds_toArray, List.set_cons_zero, List.set_cons_succ]
      case' refine_1 =>
        have q8 := (HI.out.gr HG3.out).all.2.2.2.2.2.2.2.2
        go_simp
        refine hK.out _ _ HS3.out (fun _ => ?_)
        clear hK K q8
        try simp only [Act.put, List.setIfInBounds_toArray, List.set_cons_zero, List.set_cons_succ]
        refine wpAnyH_ready (rs := [2, 5]) (by kernel_rfl) (by simp) ?_
        refine AllReadyH.cons rfl (fun K hK => ?_) (AllReadyH.cons rfl (fun K hK => ?_) AllReadyH.nil)
        case' refine_1 =>
          go_simp
          go_at_call 38
          refine (HCL.out W3 (HG.out.trans HG3.out)).mono ?_
          rintro e w4 ⟨v5, rfl, hx5, g5⟩
          have HX4 : Hid (XO w4 (w.heap.size + 3) v5 R) := Lib.hid (hx5.le HW3.out)
          have HG4 := Lib.hid (HG3.out.trans g5)
          have HS4 := Lib.hid (HS3.out.gr g5)
          have HW4 : Hid (w.heap.size + 3 ≤ w4.heap.size) := Lib.hid (by have := HG4.out.size; have := HSZ.out; omega)
          have hg5 : Gr w4 (w4.alloc (.cells (tcs t (.slice At nt ct)) 38)) := (Gr.refl _).alloc _
          have HBS : Hid (World.ownsRow (w4.alloc (.cells (tcs t (.slice At nt ct)) 38)) (w.heap.size + 3) 38 12 (.slice (some ⟨w4.heap.size, 0, none⟩) 1 1) 1 (trcells (t, (⟨At, nt, ct⟩ : S3)))) := Lib.hid (own_new1 w4 t _ HW4.out)
          have HG5 := Lib.hid (HG4.out.trans hg5)
          have HS5 := Lib.hid (HS4.out.gr hg5)
          have HXO : Hid (XO (w4.alloc (.cells (tcs t (.slice At nt ct)) 38)) (w.heap.size + 3) v5 R) := Lib.hid (HX4.out.gr hg5)
          have HB5 : Hid (w.heap.size + 3 ≤ ((w4.alloc (.cells (tcs t (.slice At nt ct)) 38))).heap.size) := Lib.hid (by have := HG5.out.size; have := HSZ.out; omega)
          have HVB : Hid (v5.ownBlock ≠ some w4.heap.size) := Lib.hid (fun e => by have := (HX4.out.lt _ e).2; omega)
          have HIN := Lib.hid (insert_anyX v5 R (w.heap.size + 3) p w4.heap.size (w.heap.size + 3) (t, (⟨At, nt, ct⟩ : S3)) (w4.alloc (.cells (tcs t (.slice At nt ct)) 38)) HXO.out HB5.out (by rw [← HRN.out]; omega) (by rw [← HRN.out]; omega) HVB.out HBS.out)
          obtain ⟨A5, c5, hv5, -, -⟩ := own_form hx5
          subst hv5
          rw [← HRN.out] at HIN HXO HVB ⊢
          clear hx5 g5 hg5
          go_wp2_with fail
          refine hK.out _ _ HS4.out (fun _ => ?_)
          clear hK K
          try simp only [Act.put, List.setIfInBounds_toArray, List.set_cons_zero, List.set_cons_succ]
          refine wpAnyH_ready (rs := [5]) (by kernel_rfl) (by simp) ?_
          refine AllReadyH.cons rfl (fun K hK => ?_) AllReadyH.nil
          go_simp
          refine hK.out _ _ HS5.out (fun _ => ?_)
          clear hK K
          try simp only [Act.put, List.setIfInBounds_toArray, List.set_cons_zero, List.set_cons_succ]
        case' refine_2 =>
          have hg4 : Gr W3 (W3.alloc (.cells (tcs t (.slice At nt ct)) 38)) := (Gr.refl _).alloc _
          have HBS4 : Hid (World.ownsRow (W3.alloc (.cells (tcs t (.slice At nt ct)) 38)) (w.heap.size + 3) 38 12 (.slice (some ⟨W3.heap.size, 0, none⟩) 1 1) 1 (trcells (t, (⟨At, nt, ct⟩ : S3)))) := Lib.hid (own_new1 W3 t _ HW3.out)
          have HG4 := Lib.hid (HG3.out.trans hg4)
          have HS4 := Lib.hid (HS3.out.gr hg4)
          have HW4S : Hid (W3.heap.size < ((W3.alloc (.cells (tcs t (.slice At nt ct)) 38))).heap.size) := Lib.hid (by simp)
          go_simp
          clear hg4
          refine hK.out _ _ HS4.out (fun _ => ?_)
          clear hK K
          try simp only [Act.put, List.setIfInBounds_toArray, List.set_cons_zero, List.set_cons_succ]
          refine wpAnyH_ready (rs := [2]) (by kernel_rfl) (by simp) ?_
          refine AllReadyH.cons rfl (fun K hK => ?_) AllReadyH.nil
          go_simp
          go_at_call 38
          refine (HCL.out _ (HG.out.trans HG4.out)).mono ?_
          rintro e w5 ⟨v5, rfl, hx5, g5⟩
          have HXO : Hid (XO w5 (w.heap.size + 3) v5 R) := Lib.hid (hx5.le (by have := HW3.out; have := HG4.out.size; have := HSZ.out; omega))
          have HG5 := Lib.hid (HG4.out.trans g5)
          have HS5 := Lib.hid (HS4.out.gr g5)
          have HBS : Hid (w5.ownsRow (w.heap.size + 3) 38 12 (.slice (some ⟨W3.heap.size, 0, none⟩) 1 1) 1 (trcells (t, (⟨At, nt, ct⟩ : S3)))) := Lib.hid (own_gr HBS4.out g5)
          have HVB : Hid (v5.ownBlock ≠ some W3.heap.size) := Lib.hid (fun e => by have := (hx5.lt _ e).1; have := HW4S.out; omega)
          have HB5 : Hid (w.heap.size + 3 ≤ w5.heap.size) := Lib.hid (by have := HG5.out.size; have := HSZ.out; omega)
          have HIN := Lib.hid (insert_anyX v5 R (w.heap.size + 3) p W3.heap.size (w.heap.size + 3) (t, (⟨At, nt, ct⟩ : S3)) w5 HXO.out HB5.out (by rw [← HRN.out]; omega) (by rw [← HRN.out]; omega) HVB.out HBS.out)
          obtain ⟨A5, c5, hv5, -, -⟩ := own_form hx5
          subst hv5
          rw [← HRN.out] at HIN HXO HVB ⊢
          clear hx5 g5
          go_wp2_with fail
          refine hK.out _ _ HS5.out (fun _ => ?_)
          clear hK K
          try simp only [Act.put, List.setIfInBounds_toArray, List.set_cons_zero, List.set_cons_succ]
      all_goals
        refine wpAnyH_ready (rs := [6]) (by kernel_rfl) (by simp) ?_
        refine AllReadyH.cons rfl (fun K hK => ?_) AllReadyH.nil
        go_simp
        go_at_call 37
        refine HIN.out.mono ?_
        rintro e w6 ⟨v6, rfl, hx6, -, k6⟩
        have HF6 : Hid (∀ g, (Value.slice A5 p c5).ownBlock = some g → w.heap.size + 3 ≤ g) := Lib.hid fun g hg => (World.ownsRow.lt (by have := HXO.out; unfold XO at this; rw [← HRN.out] at this; exact this) g hg).1
        have hib6 : IBox w6 w.heap.size u ⟨A, p, c⟩ := (HI.out.gr HG5.out).keep (k6.block _ (HI.out.gr HG5.out).lt (fun e => by have := HF6.out _ e.symm; omega))
        have hs6 : XFix w6 (w.heap.size + 1) 0 t (.slice At nt ct) := (HX.out.gr HG5.out).kp k6 (fun e => by have := HF6.out _ e; omega)
        have hz6 : IBox w6 (w.heap.size + 1 + 1) Z3 N3 := (HZ.out.gr HG5.out).keep (k6.block _ (HZ.out.gr HG5.out).lt (fun e => by have := HF6.out _ e.symm; omega))
        have hg6 : Gr W w6 := ⟨k6.os.trans HG5.out.os, k6.tape.trans HG5.out.tape, k6.output.trans HG5.out.output, Nat.le_trans HG5.out.size k6.size, fun x hx => (k6.block x (Nat.lt_of_lt_of_le hx HG5.out.size) (fun e => by have := HF6.out _ e.symm; have := HSZ.out; omega)).trans (HG5.out.block x hx)⟩
        obtain ⟨A6, c6, hv6, -, -⟩ := own_form hx6
        subst hv6
        have hrl : (R.insertIdx p (t, (⟨At, nt, ct⟩ : S3))).length = p + 1 := by rw [List.length_insertIdx, if_pos (by rw [← HRN.out]; exact hpn), ← HRN.out]
        have HRL := Lib.hid hrl
        obtain ⟨n6, hn6⟩ : ∃ x, x = (R.insertIdx p (t, (⟨At, nt, ct⟩ : S3))).length := ⟨_, rfl⟩
        rw [← hn6] at hrl ⊢
        have HN6 := Lib.hid hn6
        have HX6 := Lib.hid hx6
        have HIB6 := Lib.hid hib6
        have HS6 := Lib.hid hs6
        have HZ6 := Lib.hid hz6
        have HG6 := Lib.hid hg6
        have HN61 := Lib.hid hrl
        have HS7 : Hid (XFix (w6.setCell ⟨w.heap.size, 8, none⟩ (.slice A6 n6 c6)) (w.heap.size + 1) 0 t (.slice At nt ct)) := Lib.hid (hs6.far (by show w.heap.size ≠ w.heap.size + 1; omega) _)
        have q8 := hib6.all.2.2.2.2.2.2.2.2
        have y8 := hib6.fz.2.2.2.2.2.2.2.2
        have HQ8 := Lib.hid (And.intro q8 y8)
        clear hx6 hib6 hs6 hz6 hg6 k6 hrl hn6 q8 y8
        go_wp2_with fail
        refine hK.out _ _ HS6.out (fun _ => ?_)
        clear hK K
        try simp only [Act.put, List.setIfInBounds_toArray, List.set_cons_zero, List.set_cons_succ]
        refine wpAnyH_ready (rs := [7]) (by kernel_rfl) (by simp) ?_
        refine AllReadyH.cons rfl (fun K hK => ?_) AllReadyH.nil
        go_simp
        refine hK.out _ _ HS6.out (fun _ => ?_)
        clear hK K
        try simp only [Act.put, List.setIfInBounds_toArray, List.set_cons_zero, List.set_cons_succ]
        refine wpAnyH_ready (rs := [8]) (by kernel_rfl) (by simp) ?_
        refine AllReadyH.cons rfl (fun K hK => ?_) AllReadyH.nil
        have q8 := HQ8.out.1
        have y8 := HQ8.out.2
        go_simp
        refine hK.out _ _ HS7.out (fun _ => ?_)
        clear hK K q8 y8
        refine wpAnyH_done (by kernel_rfl) ?_ _
        try simp only [Act.put, List.setIfInBounds_toArray, List.set_cons_zero, List.set_cons_succ]
        obtain ⟨w7, hw7, hb7, hg7, hz7, hx7⟩ : ∃ x, x = w6.setCell ⟨w.heap.size, 8, none⟩ (.slice A6 n6 c6) ∧ IBox x w.heap.size u ⟨A6, n6, c6⟩ ∧ Gr w x ∧ IBox x (w.heap.size + 1 + 1) Z3 N3 ∧ XO x (w.heap.size + 3) (.slice A6 n6 c6) (R.insertIdx p (t, (⟨At, nt, ct⟩ : S3))) :=
          ⟨_, rfl, ⟨by rw [block_setCell HIB6.out.box]; rfl⟩, (HG.out.trans HG6.out).setCell (Nat.le_refl _) _, ⟨set_obj_other HZ6.out.box (by omega) _⟩, by
            have := HX6.out
            rw [← HN6.out] at this
            exact own_set_obj this HIB6.out.box (by decide) _⟩
        rw [← hw7]
        have HX7 : Hid (XV w7 (.slice A6 n6 c6) (L.insertIdx p t)) := Lib.hid (by
          have h1 := hx7.xv (fun r hr => by
            rcases mem_insert (by rw [← HRN.out]; exact hpn) hr with h | h
            · rw [h]; exact HTV.out.gr hg7
            · exact (HRO.out r h).gr hg7)
          rw [texts_insert, HRT.out] at h1
          exact h1)
        have HCO := Lib.hid (icopy_any u ⟨A6, n6, c6⟩ l (L.insertIdx p t) w7 (HLV.out.gr hg7) HX7.out HF.out (fun y hy => by
          rcases mem_insert (by rw [← HN.out]; exact hpn) hy with h | h
          · rw [h]; exact HT.out.2
          · exact (HL.out y h).2) (by rw [List.length_insertIdx, if_pos (by rw [← HN.out]; exact hpn), ← HN.out]; omega))
        obtain ⟨q0, q1, q2, q3, q4, q5, q6, q7, q8⟩ := hb7.all
        have HG7 := Lib.hid hg7
        have HZ7 := Lib.hid hz7
        clear hw7 hb7 hg7 hz7 hx7
        go_wp2_with fail
        refine HCO.out.mono ?_
        rintro e w8 ⟨u8, ⟨A8, n8, c8⟩, rfl, hl8, hx8, g8⟩
        have hz := HZ7.out.gr g8
        have HZ9 := Lib.hid hz
        have HFIN : Hid (LN (putI w8 (w.heap.size + 1 + 1) u8 ⟨A8, n8, c8⟩) w.heap.size u8 (holdR (l, L) t).1.1 ∧ XN (putI w8 (w.heap.size + 1 + 1) u8 ⟨A8, n8, c8⟩) w.heap.size (S3.v ⟨A8, n8, c8⟩) (holdR (l, L) t).1.2 ∧ Gr w (putI w8 (w.heap.size + 1 + 1) u8 ⟨A8, n8, c8⟩)) := Lib.hid (by
          rw [HEQ.out]
          exact ⟨(hl8.kpI HZ9.out (putI_kp _ _ _ _)).le HG7.out.size, (hx8.kpI HZ9.out (putI_kp _ _ _ _)).le HG7.out.size, putI_gr (HG7.out.trans g8) (show w.heap.size ≤ w.heap.size + 1 + 1 by omega) _ _⟩)
        obtain ⟨z0, z1, z2, z3, z4, z5, z6, z7, z8⟩ := hz.zero
        obtain ⟨f0, f1, f2, f3, f4, f5, f6, f7, f8⟩ := hz.fz
        clear hz hl8 hx8 g8 q0 q1 q2 q3 q4 q5 q6 q7 q8
        go_wp2_with fail
        refine bodyPost_ret (v := .tuple #[.agg (icells u8 ⟨A8, n8, c8⟩), .int .i64 0]) (by simp [results, Try.results25, go_sem, z0, z1, z2, z3, z4, z5, z6, z7, z8]) rfl ?_
        exact ⟨u8, ⟨A8, n8, c8⟩, by rw [HEQ.out]; rfl, HFIN.out⟩
end Go.Proofs.Ytjpiemgpbakfaaa
