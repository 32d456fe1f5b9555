/- Walks: act, few, awake of the laws of stores. Mathematics of a store: where all is safe nothing is loose; the first write. Walks: few. -/
import Derived.Test.YtlnhbndghnkfmaaGreatDoorZm48
namespace Go.Proofs.YtlnhbndghnkfmaaGreatDoor
open Go.RowKit

/-- One act of the program's, in plain words. -/
noncomputable def actR (s : St) (k : Int) (l : List CR) : St × List O × Nat :=
  if kindN k = 1 then safeR s else if kindN k = 2 then flushR s else if kindN k = 3 then mergeR s else writeR s l
/-- What a store has to be like for an act to be carried out on it. -/
structure ActOk (s : St) : Prop where
  ok : StOk s
  files : s.files.length ≤ 1000000000000
  tabs : s.tabs.length ≤ 100000
  mem : s.mem.length ≤ 100000
  small : ∀ c ∈ s.mem, c.key.size ≤ 281474976710656 ∧ c.val.size ≤ 281474976710000
theorem si_actok {s : St} {R : List ByteArray} {Q : List (List CR)} {n c : Nat} (h : SI s R Q n c) (hc : c ≤ 600) : ActOk s :=
  ⟨si_ok h hc, by have := h.glob.len; omega, by have := h.few; omega, by have := h.memL; omega, fun x hx => by have := si_small h x hx; omega⟩
theorem own_five' {w : World} {B : Nat} {v : Value} {s : St} (h : StO w B v s) : ∃ AF nF cF AM nM cM AT nT cT, v = .agg #[.slice AF nF cF, .slice AM nM cM, .slice AT nT cT, .int .i64 (s.gen : Int), .int .i64 (s.marks : Int)] := by
  obtain ⟨vF, vM, vT, rfl, h1, h2, h3⟩ := h
  obtain ⟨AF, cF, rfl, -, -⟩ := own_form h1
  obtain ⟨AM, cM, rfl, -, -⟩ := own_form h2
  obtain ⟨AT, cT, rfl, -, -⟩ := own_form h3
  exact ⟨_, _, _, _, _, _, _, _, _, rfl⟩
theorem StV.five {w : World} {v : Value} {s : St} (h : StV w v s) : ∃ AF nF cF AM nM cM AT nT cT, v = .agg #[.slice AF nF cF, .slice AM nM cM, .slice AT nT cT, .int .i64 (s.gen : Int), .int .i64 (s.marks : Int)] := by
  obtain ⟨vF, vM, vT, rfl, ⟨AF, cF, rfl, _⟩, ⟨AM, cM, rfl, _⟩, ⟨AT, cT, rfl, _⟩⟩ := h
  exact ⟨_, _, _, _, _, _, _, _, _, rfl⟩
theorem co_none (W : World) (B : Nat) (hB : B ≤ W.heap.size) : CO (W.alloc (.cells #[] 70)) B (.slice (some ⟨W.heap.size, 0, none⟩) 0 0) [] :=
  ⟨rfl, .inr ⟨W.heap.size, 0, #[], rfl, hB, heap_alloc_new W _, Nat.le_refl _, by decide, rfl, rfl⟩⟩
theorem cf_write (W : World) (vals : Array Value) : (callFunc 34 vals).run Tryz.prog W = .ok (.enter 34 vals) W := by
  have hf : Tryz.prog.funcs[34]? = some Tryz.f34 := Tryz.func34
  simp [callFunc, hf, Tryz.f34, go_sem]
set_option maxRecDepth 100000 in
set_option maxHeartbeats 4000000 in
theorem act_any (v vl : Value) (s : St) (k : Int) (l : List CR) (w : World) (hv : StV w v s) (hs : ActOk s) (hl : CV w vl l) (hll : l.length * 40 ≤ 140737488355328) (hlz : ∀ c ∈ l, c.key.size ≤ 281474976710656 ∧ c.val.size ≤ 281474976710656) (hH : Halves w) :
    Calls Tryz.prog 19 #[v, .agg #[.int .i64 k, vl]] w fun e w' => RetTop (topR (actR s k l)) w e w' := by
  have HK := Lib.hid (fun w => kind_any k w)
  have H1 : Hid (∀ w1, Gr w w1 → Calls Tryz.prog 47 #[v] w1 fun e w' => RetTop (topR (safeR s)) w1 e w') := Lib.hid (fun w1 q => safe_any v s w1 (hv.gr q) hs.ok)
  have H2 : Hid (∀ w1, Gr w w1 → Calls Tryz.prog 48 #[v] w1 fun e w' => RetTop (topR (flushR s)) w1 e w') := Lib.hid (fun w1 q => lflush_any v s w1 (hv.gr q) hs.ok hs.files hs.small (hH.gr q))
  have H3 : Hid (∀ w1, Gr w w1 → Calls Tryz.prog 49 #[v] w1 fun e w' => RetTop (topR (mergeR s)) w1 e w') := Lib.hid (fun w1 q => lmerge_any v s w1 (hv.gr q) hs.ok hs.files hs.tabs (hH.gr q))
  have H0 : Hid (∀ w1 u, Gr w w1 → CV w1 u l → Calls Tryz.prog 34 #[v, u] w1 fun e w' => RetTop (topR (writeR s l)) w1 e w') := Lib.hid (fun w1 u q hu => write_any v u s l w1 (hv.gr q) hs.ok (by have := hs.mem; omega) hu hlz (hH.gr q))
  have HL := Lib.hid hl
  obtain ⟨AF, nF, cF, AM, nM, cM, AT, nT, cT, rfl⟩ := hv.five
  obtain ⟨g, hg⟩ : ∃ g : Nat, g = s.gen := ⟨_, rfl⟩
  obtain ⟨m, hm⟩ : ∃ g : Nat, g = s.marks := ⟨_, rfl⟩
  rw [← hg, ← hm] at H1 H2 H3 H0 ⊢
  obtain ⟨Al, nl, cl, rfl⟩ : ∃ A n c, vl = .slice A n c := by
    obtain ⟨A, c, h, _⟩ := hl
    exact ⟨A, _, c, h⟩
  obtain ⟨kk, hkk⟩ : ∃ x, x = kindN k := ⟨_, rfl⟩
  have hlt : kk < 4 := by rw [hkk]; exact kindN_lt k
  obtain ⟨r, hr⟩ : ∃ r, r = actR s k l := ⟨_, rfl⟩
  rw [← hr]
  unfold actR at hr
  rw [← hkk] at HK hr
  have HR := Lib.hid hr
  obtain ⟨W, hW⟩ : ∃ W, W = ((w.alloc (.cells #[.slice AF nF cF, .slice AM nM cM, .slice AT nT cT, .int .i64 (g : Int), .int .i64 (m : Int)] 30)).alloc (.cells #[.int .i64 k, .slice Al nl cl] 44)).alloc (.cells #[.slice none 0 0, .slice none 0 0, .slice none 0 0, .int .i64 0, .int .i64 0] 30) := ⟨_, rfl⟩
  have HG : Hid (Gr w W) := Lib.hid (by rw [hW]; exact ((gr_box _ _).alloc _).alloc _)
  have HO1 : Hid (W.heap[w.heap.size]? = some (.cells #[.slice AF nF cF, .slice AM nM cM, .slice AT nT cT, .int .i64 (g : Int), .int .i64 (m : Int)] 30 (0, 0))) := Lib.hid (by rw [hW]; exact gr_obj ((gr_box _ _).alloc _) (heap_alloc_new w _))
  have HO2 : Hid (W.heap[w.heap.size + 1]? = some (.cells #[.int .i64 k, .slice Al nl cl] 44 (0, 0))) := Lib.hid (by
    rw [hW]
    have h := gr_obj (gr_box ((w.alloc (.cells #[.slice AF nF cF, .slice AM nM cM, .slice AT nT cT, .int .i64 (g : Int), .int .i64 (m : Int)] 30)).alloc (.cells #[.int .i64 k, .slice Al nl cl] 44)) (.cells #[.slice none 0 0, .slice none 0 0, .slice none 0 0, .int .i64 0, .int .i64 0] 30)) (heap_alloc_new (w.alloc (.cells #[.slice AF nF cF, .slice AM nM cM, .slice AT nT cT, .int .i64 (g : Int), .int .i64 (m : Int)] 30)) (.cells #[.int .i64 k, .slice Al nl cl] 44))
    simpa using h)
  have HO3 : Hid (W.heap[w.heap.size + 1 + 1]? = some (.cells #[.slice none 0 0, .slice none 0 0, .slice none 0 0, .int .i64 0, .int .i64 0] 30 (0, 0))) := Lib.hid (by
    rw [hW]
    have h := heap_alloc_new ((w.alloc (.cells #[.slice AF nF cF, .slice AM nM cM, .slice AT nT cT, .int .i64 (g : Int), .int .i64 (m : Int)] 30)).alloc (.cells #[.int .i64 k, .slice Al nl cl] 44)) (.cells #[.slice none 0 0, .slice none 0 0, .slice none 0 0, .int .i64 0, .int .i64 0] 30)
    simpa using h)
  have k0 := obj_cell HO2.out (i := 0) rfl
  have s0 := obj_cell HO1.out (i := 0) rfl
  have s1 := obj_cell HO1.out (i := 1) rfl
  have s2 := obj_cell HO1.out (i := 2) rfl
  have s3 := obj_cell HO1.out (i := 3) rfl
  have s4 := obj_cell HO1.out (i := 4) rfl
  clear hv hs hl hH hg hm hkk hr hlz
  go_enter Tryz.func19, Tryz.ntmps19
  go_upto_region 1 with (fail)
  rw [← hW]
  clear hW
  go_wp2_with fail
  refine (HK.out _).mono ?_
  rintro e w1 ⟨rfl, rfl⟩
  obtain rfl | rfl | rfl | rfl : kk = 0 ∨ kk = 1 ∨ kk = 2 ∨ kk = 3 := by omega
  rotate_left 1
  · have hr1 := HR.out
    rw [if_pos rfl] at hr1
    have HR1 := Lib.hid hr1
    obtain ⟨rr, hrr⟩ : ∃ rr, rr = topR (safeR s) := ⟨_, rfl⟩
    rw [← hrr] at H1
    have HRR := Lib.hid hrr
    have HLE : Hid (w.heap.size ≤ W.heap.size) := Lib.hid HG.out.size
    clear hr1 hrr
    go_wp2_with fail
    refine (H1.out _ HG.out).mono ?_
    rintro e w2 ⟨v2, vD, rfl, hv2, hd2, g2⟩
    obtain ⟨AF', nF', cF', AM', nM', cM', AT', nT', cT', rfl⟩ := own_five' hv2
    have HV2 := Lib.hid hv2
    have HD2 := Lib.hid hd2
    have HG2 := Lib.hid g2
    obtain ⟨AD, nD, cD, rfl⟩ : ∃ A n c, vD = .slice A n c := by
      obtain ⟨A, c, h, -, -⟩ := own_form hd2
      exact ⟨A, _, c, h⟩
    obtain ⟨rs, rD, re⟩ := rr
    obtain ⟨rf, rm, rt, rg, rk⟩ := rs
    dsimp only at HV2 HD2 ⊢
    have HBX : Hid (BoxAt w2 (w.heap.size + 1 + 1) 30) := Lib.hid ⟨_, gr_obj g2 HO3.out⟩
    have hR4 := gr_obj g2 HO3.out
    have r0 := obj_cell hR4 (i := 0) rfl
    have r1 := obj_cell hR4 (i := 1) rfl
    have r2 := obj_cell hR4 (i := 2) rfl
    have r3 := obj_cell hR4 (i := 3) rfl
    have r4 := obj_cell hR4 (i := 4) rfl
    have z0 := obj_free (i := 0) hR4
    have z1 := obj_free (i := 1) hR4
    have z2 := obj_free (i := 2) hR4
    have z3 := obj_free (i := 3) hR4
    have z4 := obj_free (i := 4) hR4
    clear hR4 g2 hv2 hd2
    clear k0 s0 s1 s2 s3 s4 H0 H1 H2 H3
    go_wp2_with fail
    refine bodyPost_ret (v := .tuple #[.agg #[.slice AF' nF' cF', .slice AM' nM' cM', .slice AT' nT' cT', .int .i64 (rg : Int), .int .i64 (rk : Int)], .slice AD nD cD, .int .i64 (re : Int)]) (by simp [results, Tryz.results19, go_sem, r0, r1, r2, r3, r4]) rfl ?_
    rw [HR1.out, ← HRR.out]
    obtain ⟨a1, a2, a3, e, h1, h2, h3⟩ := HV2.out
    unfold stval at e
    injection e with e
    simp only [Array.mk.injEq, List.cons.injEq, and_true] at e
    obtain ⟨e1, e2, e3⟩ := e
    subst e1 e2 e3
    refine ⟨_, _, rfl, ⟨_, _, _, rfl, ?_, ?_, ?_⟩, ?_, ?_⟩
    · exact own_five (h1.le HLE.out) HBX.out (by decide) _ _ _ _ _
    · exact own_five (h2.le HLE.out) HBX.out (by decide) _ _ _ _ _
    · exact own_five (h3.le HLE.out) HBX.out (by decide) _ _ _ _ _
    · exact own_five (HD2.out.le HLE.out) HBX.out (by decide) _ _ _ _ _
    · exact gr_five (HG.out.trans HG2.out) (by omega) _ _ _ _ _
  · have hr1 := HR.out
    rw [if_neg (by decide), if_pos rfl] at hr1
    have HR1 := Lib.hid hr1
    obtain ⟨rr, hrr⟩ : ∃ rr, rr = topR (flushR s) := ⟨_, rfl⟩
    rw [← hrr] at H2
    have HRR := Lib.hid hrr
    have HLE : Hid (w.heap.size ≤ W.heap.size) := Lib.hid HG.out.size
    clear hr1 hrr
    go_wp2_with fail
    refine (H2.out _ HG.out).mono ?_
    rintro e w2 ⟨v2, vD, rfl, hv2, hd2, g2⟩
    obtain ⟨AF', nF', cF', AM', nM', cM', AT', nT', cT', rfl⟩ := own_five' hv2
    have HV2 := Lib.hid hv2
    have HD2 := Lib.hid hd2
    have HG2 := Lib.hid g2
    obtain ⟨AD, nD, cD, rfl⟩ : ∃ A n c, vD = .slice A n c := by
      obtain ⟨A, c, h, -, -⟩ := own_form hd2
      exact ⟨A, _, c, h⟩
    obtain ⟨rs, rD, re⟩ := rr
    obtain ⟨rf, rm, rt, rg, rk⟩ := rs
    dsimp only at HV2 HD2 ⊢
    have HBX : Hid (BoxAt w2 (w.heap.size + 1 + 1) 30) := Lib.hid ⟨_, gr_obj g2 HO3.out⟩
    have hR4 := gr_obj g2 HO3.out
    have r0 := obj_cell hR4 (i := 0) rfl
    have r1 := obj_cell hR4 (i := 1) rfl
    have r2 := obj_cell hR4 (i := 2) rfl
    have r3 := obj_cell hR4 (i := 3) rfl
    have r4 := obj_cell hR4 (i := 4) rfl
    have z0 := obj_free (i := 0) hR4
    have z1 := obj_free (i := 1) hR4
    have z2 := obj_free (i := 2) hR4
    have z3 := obj_free (i := 3) hR4
    have z4 := obj_free (i := 4) hR4
    clear hR4 g2 hv2 hd2
    clear k0 s0 s1 s2 s3 s4 H0 H1 H2 H3
    go_wp2_with fail
    refine bodyPost_ret (v := .tuple #[.agg #[.slice AF' nF' cF', .slice AM' nM' cM', .slice AT' nT' cT', .int .i64 (rg : Int), .int .i64 (rk : Int)], .slice AD nD cD, .int .i64 (re : Int)]) (by simp [results, Tryz.results19, go_sem, r0, r1, r2, r3, r4]) rfl ?_
    rw [HR1.out, ← HRR.out]
    obtain ⟨a1, a2, a3, e, h1, h2, h3⟩ := HV2.out
    unfold stval at e
    injection e with e
    simp only [Array.mk.injEq, List.cons.injEq, and_true] at e
    obtain ⟨e1, e2, e3⟩ := e
    subst e1 e2 e3
    refine ⟨_, _, rfl, ⟨_, _, _, rfl, ?_, ?_, ?_⟩, ?_, ?_⟩
    · exact own_five (h1.le HLE.out) HBX.out (by decide) _ _ _ _ _
    · exact own_five (h2.le HLE.out) HBX.out (by decide) _ _ _ _ _
    · exact own_five (h3.le HLE.out) HBX.out (by decide) _ _ _ _ _
    · exact own_five (HD2.out.le HLE.out) HBX.out (by decide) _ _ _ _ _
    · exact gr_five (HG.out.trans HG2.out) (by omega) _ _ _ _ _
  · have hr1 := HR.out
    rw [if_neg (by decide), if_neg (by decide), if_pos rfl] at hr1
    have HR1 := Lib.hid hr1
    obtain ⟨rr, hrr⟩ : ∃ rr, rr = topR (mergeR s) := ⟨_, rfl⟩
    rw [← hrr] at H3
    have HRR := Lib.hid hrr
    have HLE : Hid (w.heap.size ≤ W.heap.size) := Lib.hid HG.out.size
    clear hr1 hrr
    go_wp2_with fail
    refine (H3.out _ HG.out).mono ?_
    rintro e w2 ⟨v2, vD, rfl, hv2, hd2, g2⟩
    obtain ⟨AF', nF', cF', AM', nM', cM', AT', nT', cT', rfl⟩ := own_five' hv2
    have HV2 := Lib.hid hv2
    have HD2 := Lib.hid hd2
    have HG2 := Lib.hid g2
    obtain ⟨AD, nD, cD, rfl⟩ : ∃ A n c, vD = .slice A n c := by
      obtain ⟨A, c, h, -, -⟩ := own_form hd2
      exact ⟨A, _, c, h⟩
    obtain ⟨rs, rD, re⟩ := rr
    obtain ⟨rf, rm, rt, rg, rk⟩ := rs
    dsimp only at HV2 HD2 ⊢
    have HBX : Hid (BoxAt w2 (w.heap.size + 1 + 1) 30) := Lib.hid ⟨_, gr_obj g2 HO3.out⟩
    have hR4 := gr_obj g2 HO3.out
    have r0 := obj_cell hR4 (i := 0) rfl
    have r1 := obj_cell hR4 (i := 1) rfl
    have r2 := obj_cell hR4 (i := 2) rfl
    have r3 := obj_cell hR4 (i := 3) rfl
    have r4 := obj_cell hR4 (i := 4) rfl
    have z0 := obj_free (i := 0) hR4
    have z1 := obj_free (i := 1) hR4
    have z2 := obj_free (i := 2) hR4
    have z3 := obj_free (i := 3) hR4
    have z4 := obj_free (i := 4) hR4
    clear hR4 g2 hv2 hd2
    clear k0 s0 s1 s2 s3 s4 H0 H1 H2 H3
    go_wp2_with fail
    refine bodyPost_ret (v := .tuple #[.agg #[.slice AF' nF' cF', .slice AM' nM' cM', .slice AT' nT' cT', .int .i64 (rg : Int), .int .i64 (rk : Int)], .slice AD nD cD, .int .i64 (re : Int)]) (by simp [results, Tryz.results19, go_sem, r0, r1, r2, r3, r4]) rfl ?_
    rw [HR1.out, ← HRR.out]
    obtain ⟨a1, a2, a3, e, h1, h2, h3⟩ := HV2.out
    unfold stval at e
    injection e with e
    simp only [Array.mk.injEq, List.cons.injEq, and_true] at e
    obtain ⟨e1, e2, e3⟩ := e
    subst e1 e2 e3
    refine ⟨_, _, rfl, ⟨_, _, _, rfl, ?_, ?_, ?_⟩, ?_, ?_⟩
    · exact own_five (h1.le HLE.out) HBX.out (by decide) _ _ _ _ _
    · exact own_five (h2.le HLE.out) HBX.out (by decide) _ _ _ _ _
    · exact own_five (h3.le HLE.out) HBX.out (by decide) _ _ _ _ _
    · exact own_five (HD2.out.le HLE.out) HBX.out (by decide) _ _ _ _ _
    · exact gr_five (HG.out.trans HG2.out) (by omega) _ _ _ _ _
  · have hr1 := HR.out
    rw [if_neg (by decide), if_neg (by decide), if_neg (by decide)] at hr1
    have HR1 := Lib.hid hr1
    obtain ⟨rr, hrr⟩ : ∃ rr, rr = topR (writeR s l) := ⟨_, rfl⟩
    rw [← hrr] at H0
    have HRR := Lib.hid hrr
    have HLE : Hid (w.heap.size ≤ W.heap.size) := Lib.hid HG.out.size
    clear hr1 hrr H1 H2 H3
    obtain ⟨rs, rD, re⟩ := rr
    obtain ⟨rf, rm, rt, rg, rk⟩ := rs
    have H5 : Hid (∀ w1 u, Gr w w1 → CV w1 u l → Calls Tryz.prog 34 #[.agg #[.slice AF nF cF, .slice AM nM cM, .slice AT nT cT, .int .i64 (g : Int), .int .i64 (m : Int)], u] w1 fun e w' => ∃ v, e = .returned v ∧ (∃ v2 vD, v = .tuple #[v2, vD, .int .i64 (re : Int)] ∧ StO w' w1.heap.size v2 ⟨rf, rm, rt, rg, rk⟩ ∧ OO w' w1.heap.size vD rD ∧ Gr w1 w')) := Lib.hid (fun w1 u q hu => (H0.out w1 u q hu).mono (fun e w' h => by
      obtain ⟨v2, vD, h1, h2, h3, h4⟩ := h
      exact ⟨_, h1, v2, vD, rfl, h2, h3, h4⟩))
    obtain ⟨WE, hWE⟩ : ∃ WE, WE = (W.alloc (.cells #[] 70)) := ⟨_, rfl⟩
    have HGE : Hid (Gr W WE) := Lib.hid (by rw [hWE]; exact gr_box _ _)
    have HCE : Hid (CO WE W.heap.size (.slice (some ⟨W.heap.size, 0, none⟩) 0 0) []) := Lib.hid (by rw [hWE]; exact co_none W _ (Nat.le_refl _))
    obtain ⟨nl', hnl'⟩ : ∃ n, n = l.length := ⟨_, rfl⟩
    have HNL := Lib.hid hnl'
    have hll2 : (0 + nl') * 40 ≤ 140737488355328 := by omega
    have hnlE : nl = nl' := by
      obtain ⟨A, c, e, _⟩ := HL.out
      injection e with e1 e2
      rw [e2, hnl']
    subst hnlE
    clear hnl'
    go_upto_region 8 with (fail)
    have d0 := obj_cell (gr_obj (Gr.refl _).drew HO1.out) (i := 0) rfl
    have d1 := obj_cell (gr_obj (Gr.refl _).drew HO1.out) (i := 1) rfl
    have d2 := obj_cell (gr_obj (Gr.refl _).drew HO1.out) (i := 2) rfl
    have d3 := obj_cell (gr_obj (Gr.refl _).drew HO1.out) (i := 3) rfl
    have d4 := obj_cell (gr_obj (Gr.refl _).drew HO1.out) (i := 4) rfl
    have d5 := obj_cell (gr_obj (Gr.refl _).drew HO2.out) (i := 1) rfl
    have e0 := obj_cell (gr_obj HGE.out HO1.out) (i := 0) rfl
    have e1 := obj_cell (gr_obj HGE.out HO1.out) (i := 1) rfl
    have e2 := obj_cell (gr_obj HGE.out HO1.out) (i := 2) rfl
    have e3 := obj_cell (gr_obj HGE.out HO1.out) (i := 3) rfl
    have e4 := obj_cell (gr_obj HGE.out HO1.out) (i := 4) rfl
    have e5 := obj_cell (gr_obj HGE.out HO2.out) (i := 1) rfl
    rw [hWE] at e0 e1 e2 e3 e4 e5
    rw [hWE] at HGE HCE
    clear hWE
    go_region_law
      first
      | (refine step_push_c rfl (.tmp 32) (.tmp 34) rfl W.heap.size (.slice (some ⟨W.heap.size, 0, none⟩) 0 0) (.slice Al nl cl) [] l 0 nl rfl HNL.out rfl (HCE.out.gr (Gr.refl _).drew) rfl (HL.out.gr (HG.out.trans (HGE.out.trans (Gr.refl _).drew))) hll2 (HGE.out.trans (Gr.refl _).drew).size ?_
         intro A4 k4 w4 hown4 hk4
         have HG4 : Hid (Gr W w4) := Lib.hid (gr_of_grown (HGE.out.trans (Gr.refl _).drew) (HCE.out.gr (Gr.refl _).drew) hk4 (HGE.out.trans (Gr.refl _).drew).size)
         have HCV4 : Hid (CV w4 (.slice A4 nl k4) l) := Lib.hid (by have h := hown4.cv; rw [List.nil_append, Nat.zero_add] at h; exact h)
         have a0 := obj_cell (gr_obj HG4.out HO1.out) (i := 0) rfl
         have a1 := obj_cell (gr_obj HG4.out HO1.out) (i := 1) rfl
         have a2 := obj_cell (gr_obj HG4.out HO1.out) (i := 2) rfl
         have a3 := obj_cell (gr_obj HG4.out HO1.out) (i := 3) rfl
         have a4 := obj_cell (gr_obj HG4.out HO1.out) (i := 4) rfl
         clear hown4 hk4)
      | (refine step_call rfl 34 [.tmp 31, .tmp 35] _ rfl [.agg #[.slice AF nF cF, .slice AM nM cM, .slice AT nT cT, .int .i64 (g : Int), .int .i64 (m : Int)], .slice A4 nl k4] rfl (cf_write _) (H5.out _ _ (HG.out.trans HG4.out) HCV4.out) ?_
         intro v5 w2 h5
         obtain ⟨v2, vD, rfl, hv2, hd2, g2⟩ := h5
         obtain ⟨AF', nF', cF', AM', nM', cM', AT', nT', cT', rfl⟩ := own_five' hv2
         have HV2 := Lib.hid hv2
         have HD2 := Lib.hid hd2
         have HG2 := Lib.hid (HG4.out.trans g2)
         have HLE2 : Hid (W.heap.size ≤ w4.heap.size) := Lib.hid HG4.out.size
         obtain ⟨AD, nD, cD, rfl⟩ : ∃ A n c, vD = .slice A n c := by
           obtain ⟨A, c, h, -, -⟩ := own_form hd2
           exact ⟨A, _, c, h⟩
         have hR4 := gr_obj HG2.out HO3.out
         have r0 := obj_cell hR4 (i := 0) rfl
         have r1 := obj_cell hR4 (i := 1) rfl
         have r2 := obj_cell hR4 (i := 2) rfl
         have r3 := obj_cell hR4 (i := 3) rfl
         have r4 := obj_cell hR4 (i := 4) rfl
         have z0 := obj_free (i := 0) hR4
         have z1 := obj_free (i := 1) hR4
         have z2 := obj_free (i := 2) hR4
         have z3 := obj_free (i := 3) hR4
         have z4 := obj_free (i := 4) hR4
         clear hR4 g2 hv2 hd2)
    all_goals
      clear k0 s0 s1 s2 s3 s4 d0 d1 d2 d3 d4 d5 e0 e1 e2 e3 e4 e5 a0 a1 a2 a3 a4 H0 H5 HCV4
      go_wp2
      have HBX : Hid (BoxAt w2 (w.heap.size + 1 + 1) 30) := Lib.hid ⟨_, gr_obj HG2.out HO3.out⟩
      have HLEE : Hid (w.heap.size ≤ w4.heap.size) := Lib.hid (Nat.le_trans HLE.out HLE2.out)
      refine bodyPost_ret (v := .tuple #[.agg #[.slice AF' nF' cF', .slice AM' nM' cM', .slice AT' nT' cT', .int .i64 (rg : Int), .int .i64 (rk : Int)], .slice AD nD cD, .int .i64 (re : Int)]) (by simp [results, Tryz.results19, go_sem, r0, r1, r2, r3, r4]) rfl ?_
      rw [HR1.out, ← HRR.out]
      obtain ⟨a1, a2, a3, e, h1, h2, h3⟩ := HV2.out
      unfold stval at e
      injection e with e
      simp only [Array.mk.injEq, List.cons.injEq, and_true] at e
      obtain ⟨e1, e2, e3⟩ := e
      subst e1 e2 e3
      refine ⟨_, _, rfl, ⟨_, _, _, rfl, ?_, ?_, ?_⟩, ?_, ?_⟩
      · exact own_five (h1.le HLEE.out) HBX.out (by decide) _ _ _ _ _
      · exact own_five (h2.le HLEE.out) HBX.out (by decide) _ _ _ _ _
      · exact own_five (h3.le HLEE.out) HBX.out (by decide) _ _ _ _ _
      · exact own_five (HD2.out.le HLEE.out) HBX.out (by decide) _ _ _ _ _
      · exact gr_five (HG.out.trans HG2.out) (by omega) _ _ _ _ _
end Go.Proofs.YtlnhbndghnkfmaaGreatDoor
namespace Go.Proofs.YtlnhbndghnkfmaaGreatDoor
open Go.RowKit

theorem nameW_mod (p : ByteArray) (i : Nat) : nameW p i = nameW p (i % 1000000) := by
  have h : dig6 i = dig6 (i % 1000000) := by
    unfold dig6
    rw [show i / 100000 % 10 = i % 1000000 / 100000 % 10 by omega, show i / 10000 % 10 = i % 1000000 / 10000 % 10 by omega, show i / 1000 % 10 = i % 1000000 / 1000 % 10 by omega, show i / 100 % 10 = i % 1000000 / 100 % 10 by omega, show i / 10 % 10 = i % 1000000 / 10 % 10 by omega, show i % 10 = i % 1000000 % 10 by omega]
  unfold nameW
  rw [h]
theorem kl_in {p : ByteArray} {L X : List F} {R : List (List UInt8)} {s : Nat} (h : KL p L X R s) {f : F} (hf : f ∈ L) {i : Nat} (hn : f.name = nameW p i) : f ∈ X := by
  rw [nameW_mod] at hn
  have hi : i % 1000000 < 1000000 := Nat.mod_lt _ (by decide)
  have hs : segO L p (i % 1000000) = some f := by
    rw [segO_lk hi, ← hn]
    exact lk_mem h.nd hf
  rcases Nat.lt_trichotomy (i % 1000000) X.length with e | e | e
  · have := h.log.at_ _ e
    rw [hs] at this
    rw [Option.some.inj this]
    exact List.getElem_mem e
  · have := h.log.out
    rw [← e, hs] at this
    cases this
  · rw [h.gap _ e] at hs
    cases hs
theorem si_firm {s : St} {R : List ByteArray} {Q : List (List CR)} {c : Nat} (h : SI s R Q Q.length c) : looseB s.files = true := by
  rw [looseB_iff]
  intro f hf
  rcases h.names f hf with ⟨i, hi⟩ | ⟨i, hi⟩ | ht
  · obtain ⟨X, hX⟩ := h.man
    have e : (R.map dl).length = R.length := List.length_map ..
    rw [← e] at hX
    exact kl_firm hX f (kl_in hX hf hi)
  · obtain ⟨X, hX⟩ := h.log
    have e : (Q.map fun l => packL (recF l)).length = Q.length := List.length_map ..
    rw [← e] at hX
    exact kl_firm hX f (kl_in hX hf hi)
  · obtain ⟨g, hg, hl, -⟩ := h.tab _ ht
    rw [lk_mem h.glob.nd hf] at hg
    rw [Option.some.inj hg]
    exact hl
/-- An act on a store. -/
structure ActC where
  kind : Int
  chs : List CR
def AV (w : World) (v : Value) (L : List ActC) : Prop := ∃ A c, v = .slice A L.length c ∧ L.length ≤ c ∧ (c ≤ maxLen ∧ (A = none → c = 0)) ∧ ∀ j (hj : j < L.length), ∃ b off vl, A = some ⟨b, off, none⟩ ∧ w.cell? ⟨b, off + j * 2, none⟩ = some (.int .i64 L[j].kind) ∧ w.cell? ⟨b, off + j * 2 + 1, none⟩ = some vl ∧ CV w vl L[j].chs
theorem AV.gr {w w' : World} {v : Value} {L : List ActC} (h : AV w v L) (g : Gr w w') : AV w' v L := by
  obtain ⟨A, c, h1, h2, h3, h4⟩ := h
  refine ⟨A, c, h1, h2, h3, fun j hj => ?_⟩
  obtain ⟨b, off, vl, e, q0, q1, q2⟩ := h4 j hj
  exact ⟨b, off, vl, e, g.cell q0, g.cell q1, q2.gr g⟩
theorem elemAct : Tryz.prog.underlying 39 = some (.slice (Tryz.prog.elem 39)) := by kernel_rfl
theorem sizeAct : ∀ W : World, (sizeOf (Tryz.prog.elem 39)).run Tryz.prog W = .ok 2 W := fun W => by
  rw [show Tryz.prog.elem 39 = 44 by kernel_rfl]
  exact Tryz.sizeOf44 W
set_option maxRecDepth 100000 in
theorem few_any (v : Value) (L : List ActC) (w : World) (hv : AV w v L) :
    Calls Tryz.prog 17 #[v] w fun e w' => ∃ u, e = .returned u ∧ (∀ w0, AV w0 v L → AV w0 u (L.take 40)) ∧ w = w' := by
  have hv0 := hv
  obtain ⟨A, c, rfl, l1, ⟨l2, l3⟩, l4⟩ := hv
  obtain ⟨n, hn⟩ : ∃ n, n = L.length := ⟨_, rfl⟩
  have HN := Lib.hid hn
  rw [← hn] at l1 ⊢
  by_cases h : 40 < n
  · have t0 : ((n : Int) > 40) := by omega
    have hst := slice_to_g 39 2 elemAct sizeAct n c 40 (by omega) A
    have HF : Hid (∀ w0, AV w0 (.slice A n c) L → AV w0 (.slice A 40 c) (L.take 40)) := Lib.hid (fun w0 hw => by
      have hl : (L.take 40).length = 40 := by rw [List.length_take]; omega
      obtain ⟨A', c', e, l1', l2', l4'⟩ := hw
      injection e with e1 e2 e3
      subst e1 e3
      refine ⟨A, c, by rw [hl], by rw [hl]; omega, l2', fun j hj => ?_⟩
      rw [List.length_take] at hj
      obtain ⟨b, off, vl, e, q0, q1, q2⟩ := l4' j (by omega)
      refine ⟨b, off, vl, e, ?_, q1, ?_⟩
      · rw [List.getElem_take]; exact q0
      · rw [List.getElem_take]; exact q2)
    clear hv0 l4 hn l2 l3 h
    go_enter Tryz.func17, Tryz.ntmps17
    go_wp2_with fail
    go_ret
    exact ⟨_, rfl, HF.out, rfl⟩
  · have t0 : ¬ ((n : Int) > 40) := by omega
    have HF : Hid (L.take 40 = L) := Lib.hid (List.take_of_length_le (by omega))
    clear hv0 l4 hn l2 l3 h
    go_enter Tryz.func17, Tryz.ntmps17
    go_wp2_with fail
    go_ret
    refine ⟨_, rfl, fun w0 h => ?_, rfl⟩
    rw [HF.out]
    exact h
end Go.Proofs.YtlnhbndghnkfmaaGreatDoor
