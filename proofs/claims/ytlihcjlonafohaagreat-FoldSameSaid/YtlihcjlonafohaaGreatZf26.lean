/- Walks: deedOf, later. -/
import Derived.Test.YtlihcjlonafohaaGreatZf25
namespace Go.Proofs.YtlihcjlonafohaaGreat
open Go.RowKit Go.Joins
set_option linter.unusedSimpArgs false
set_option linter.unusedVariables false

def tx0 : TX := ⟨0, 0, 0, fun _ => 0, []⟩
def to0 : TO := ⟨0, ⟨#[]⟩, ⟨#[]⟩, 0⟩
/-- The tag of an operation. -/
def tagOf (t : TX) (k : Nat) (o : TO) : TG := ⟨t.origin, k, t.seq, o.elem⟩
theorem dinfo : (Tryz.prog.info? 94).map (·.size) = some 20 := by kernel_rfl
theorem xinfo : (Tryz.prog.info? 45).map (·.size) = some 12 := by kernel_rfl
theorem decs_ones (t : TX) (A : Option Addr) (n c : Nat) (o : TO) (g : TG) : (decs t (.slice A n c) o g).all (·.oneCell') = true := by
  rw [Array.all_eq_true_iff_forall_mem]
  intro v hv
  rw [Array.mem_def] at hv
  simp only [List.mem_cons, List.not_mem_nil, or_false] at hv
  rcases hv with rfl | rfl | rfl | rfl | rfl | rfl | rfl | rfl | rfl | rfl | rfl | rfl | rfl | rfl | rfl | rfl | rfl | rfl | rfl | rfl <;> rfl
/-- What deedOf's last region reads. -/
structure DOf (w0 : World) (P Q R : Nat) (t : TX) (v : Value) (o : TO) (w : World) : Prop where
  x : XFix w P 0 t v
  c : TCell w Q 0 o
  r : w.heap[R]? = some (.cells (decs tx0 (.slice none 0 0) to0 tg0) 94 (0, 0))
  gr : Gr w0 w
theorem DOf.next {w0 w w' : World} {P Q R : Nat} {t : TX} {v : Value} {o : TO} (h : DOf w0 P Q R t v o w) (g : Gr w w') : DOf w0 P Q R t v o w' :=
  ⟨by obtain ⟨h0, h1, h2, h3, h4, h5, h6, h7, h8, h9, h10, h11⟩ := h.x
      exact ⟨g.cell h0, g.cell h1, g.cell h2, g.cell h3, g.cell h4, g.cell h5, g.cell h6, g.cell h7, g.cell h8, g.cell h9, g.cell h10, g.cell h11⟩, h.c.gr g, gr_obj g h.r, h.gr.trans g⟩
set_option maxRecDepth 100000 in
set_option maxHeartbeats 4000000 in
theorem deedOf_any (t : TX) (A : Option Addr) (n c k : Nat) (w : World) (hv : TOV w (.slice A n c) t.ops) (o : TO) (ho : t.ops[k]? = some o) (hs : o.elem.size ≤ 281474976710656) :
    Calls Tryz.prog 47 #[.agg (tcs t (.slice A n c)), .int .i64 (k : Int)] w fun e w' => e = .returned (.agg (decs t (.slice A n c) o (tagOf t k o))) ∧ Gr w w' := by
  obtain ⟨A', c', hvf, l1, ⟨l2, _⟩, l3⟩ := hv
  injection hvf with e1 e2 e3
  subst e1 e3
  have hk : k < t.ops.length := (List.getElem?_eq_some_iff.1 ho).1
  have hok : t.ops[k] = o := (List.getElem?_eq_some_iff.1 ho).2
  obtain ⟨b, off, rfl, ha⟩ := l3 k hk
  rw [hok] at ha
  rw [← e2] at l1 hk
  have l2' : c ≤ 9223372036854775807 := l2
  obtain ⟨W1, hW1, hg1, hx⟩ := xbox w t (.slice (some ⟨b, off, none⟩) n c)
  obtain ⟨W, hW, hg2, hr⟩ : ∃ W, W = W1.alloc (.cells (decs tx0 (.slice none 0 0) to0 tg0) 94) ∧ Gr W1 W ∧ W.heap[W1.heap.size]? = some (.cells (decs tx0 (.slice none 0 0) to0 tg0) 94 (0, 0)) := ⟨_, rfl, (Gr.refl _).alloc _, heap_alloc _ _ _⟩
  have hsz : W1.heap.size = w.heap.size + 1 := by rw [hW1]; simp
  rw [hsz] at hr
  have HRW : Hid (w.heap.size ≤ w.heap.size + 1) := Lib.hid (Nat.le_succ _)
  obtain ⟨R, hR⟩ : ∃ R, R = w.heap.size + 1 := ⟨_, rfl⟩
  obtain ⟨P, hP⟩ : ∃ R, R = w.heap.size := ⟨_, rfl⟩
  rw [← hR] at hr HRW
  rw [← hP] at hx
  obtain ⟨W3, hW3, hg3, hc⟩ := obox W o
  obtain ⟨Q, hQ⟩ : ∃ R, R = W.heap.size := ⟨_, rfl⟩
  rw [← hQ] at hc
  have hd0 : DOf w P Q R t (.slice (some ⟨b, off, none⟩) n c) o W3 := by
    have g := hg2.trans hg3
    obtain ⟨h0, h1, h2, h3, h4, h5, h6, h7, h8, h9, h10, h11⟩ := hx
    exact ⟨⟨g.cell h0, g.cell h1, g.cell h2, g.cell h3, g.cell h4, g.cell h5, g.cell h6, g.cell h7, g.cell h8, g.cell h9, g.cell h10, g.cell h11⟩, hc, gr_obj hg3 hr, hg1.trans g⟩
  have HD := Lib.hid hd0
  have CL := Lib.hid (fun w1 => clone_any o.elem hs w1)
  obtain ⟨a0, a1, a2, a3⟩ := (ha.gr hg1).gr hg2
  obtain ⟨-, -, -, -, -, -, -, -, -, -, -, p11⟩ := hx
  have p11 := hg2.cell p11
  rw [Nat.zero_add] at p11
  rw [hW1] at hW
  have hk0 : (0 : Int) ≤ (k : Int) := Int.natCast_nonneg _
  have hk1 : (k : Int) < (n : Int) := by omega
  obtain ⟨tg, htg⟩ : ∃ g, g = tagOf t k o := ⟨_, rfl⟩
  have HTG := Lib.hid htg
  clear l1 l3 hd0 hc hr ha hg1 hg2 hg3 hsz hs ho hok e2 hW1
  go_enter Tryz.func47, Tryz.ntmps47
  go_upto_region 1 with (fail)
  change Code.wp Tryz.prog _ _ _ ((w.alloc (.cells (tcs t (.slice (some ⟨b, off, none⟩) n c)) 45)).alloc (.cells (decs tx0 (.slice none 0 0) to0 tg0) 94))
  rw [← hW, ← hR, ← hP]
  clear hW hR hP
  go_upto_region 2 with (fail)
  rw [show (#[Value.int .i64 o.kind, .string o.key, .string o.elem, .int .i64 o.n] : Array Value) = tovs o from rfl, ← hW3, ← hQ]
  clear hW3 hQ a0 a1 a2 a3 p11
  refine qTail 12 (fun w' => DOf w P Q R t (.slice (some ⟨b, off, none⟩) n c) o w') (by kernel_rfl) (by kernel_rfl) (HD.out.next (Gr.refl _).drew) ?_
  simp only [List.take_succ_cons, List.take_zero, List.drop_succ_cons, List.drop_zero]
  iterate 9
    refine qTake (by kernel_rfl) ?_
    apply Exists.intro
    refine ⟨fun wq hq => ?_, ?_⟩
    · go_light
      obtain ⟨⟨p0, p1, p2, p3, p4, p5, p6, p7, p8, p9, p10, p11⟩, ⟨q0, q1, q2, q3⟩, -, -⟩ := hq
      go_simp
      try with_reducible rfl
      done
    try simp only [Act.put, List.setIfInBounds_toArray, List.set_cons_zero, List.set_cons_succ]
  refine qCall (by kernel_rfl) ?_
  apply Exists.intro
  refine ⟨?_, ?_⟩
  · apply Exists.intro
    apply Exists.intro
    refine ⟨fun wq => ?_, fun wq hq => ?_⟩
    · go_light
      go_simp
      exact ⟨rfl, rfl⟩
    · exact (CL.out wq).mono fun e w'' ⟨he, hg⟩ => ⟨he, hq.next hg⟩
  try simp only [Act.put, List.setIfInBounds_toArray, List.set_cons_zero, List.set_cons_succ]
  iterate 2
    refine qTake (by kernel_rfl) ?_
    apply Exists.intro
    refine ⟨fun wq hq => ?_, ?_⟩
    · go_light
      obtain ⟨⟨p0, p1, p2, p3, p4, p5, p6, p7, p8, p9, p10, p11⟩, ⟨q0, q1, q2, q3⟩, -, -⟩ := hq
      go_simp
      try with_reducible rfl
      done
    try simp only [Act.put, List.setIfInBounds_toArray, List.set_cons_zero, List.set_cons_succ]
  refine qNil ?_
  intro w3 hC
  have hz := hC.r
  have HG := Lib.hid hC.gr
  clear hC
  go_wp2_with (refine wpList_store_row rfl 94 (.tmp 4) (.tmp 22) rfl R (decs t (.slice (some ⟨b, off, none⟩) n c) o (tagOf t k o)) rfl rfl 94 _ hz dinfo rfl (decs_ones _ _ _ _ _ _) ?_)
  have hzf := setRow_heap w3 R _ (decs t (.slice (some ⟨b, off, none⟩) n c) o (tagOf t k o)) 94 _ hz
  have HZF := Lib.hid hzf
  have hgr := below_setRow HG.out HRW.out (decs t (.slice (some ⟨b, off, none⟩) n c) o (tagOf t k o))
  clear hzf
  go_wp2_with fail
  exact bodyPost_ret (results_cell_row Tryz.results47 _ _ R 94 (decs t (.slice (some ⟨b, off, none⟩) n c) o (tagOf t k o)) (0, 0) _ rfl HZF.out Tryz.underlying94 rfl dinfo) rfl ⟨rfl, hgr⟩
/-- Does the Write (its stamp, its tag) come behind the last one? -/
def latB (t : TX) (g : TG) (has : Bool) (st : Nat) (top : TG) : Bool := !has || decide (0 < orL [cmpZ t.stamp st, ordG g top])
/-- What later's region reads. -/
structure LGc (w0 : World) (P S : Nat) (t : TX) (v : Value) (o : TO) (g : TG) (st : Nat) (top : TG) (w : World) : Prop where
  a : w.cell? ⟨P, 2, none⟩ = some (.int .u64 (t.stamp : Int))
  d0 : w.cell? ⟨P, 16, none⟩ = some (.int .i64 g.o)
  d1 : w.cell? ⟨P, 17, none⟩ = some (.int .i64 g.i)
  d2 : w.cell? ⟨P, 18, none⟩ = some (.int .u64 (g.s : Int))
  d3 : w.cell? ⟨P, 19, none⟩ = some (.string g.e)
  h : w.cell? ⟨S, 4, none⟩ = some (.bool true)
  s : w.cell? ⟨S, 5, none⟩ = some (.int .u64 (st : Int))
  e0 : w.cell? ⟨S, 6, none⟩ = some (.int .i64 top.o)
  e1 : w.cell? ⟨S, 7, none⟩ = some (.int .i64 top.i)
  e2 : w.cell? ⟨S, 8, none⟩ = some (.int .u64 (top.s : Int))
  e3 : w.cell? ⟨S, 9, none⟩ = some (.string top.e)
  gr : Gr w0 w
theorem LGc.next {w0 w w' : World} {P S : Nat} {t : TX} {v : Value} {o : TO} {g : TG} {st : Nat} {top : TG} (q : LGc w0 P S t v o g st top w) (r : Gr w w') : LGc w0 P S t v o g st top w' :=
  ⟨r.cell q.a, r.cell q.d0, r.cell q.d1, r.cell q.d2, r.cell q.d3, r.cell q.h, r.cell q.s, r.cell q.e0, r.cell q.e1, r.cell q.e2, r.cell q.e3, q.gr.trans r⟩
set_option maxRecDepth 100000 in
set_option maxHeartbeats 4000000 in
theorem later_any (t : TX) (A : Option Addr) (n c : Nat) (o : TO) (g : TG) (k m : Int) (A1 A2 : Option Addr) (n1 c1 n2 c2 : Nat) (has : Bool) (st : Nat) (top : TG) (df : Bool) (w : World) :
    Calls Tryz.prog 96 #[.agg (decs t (.slice A n c) o g), .agg (fsc k m (.slice A1 n1 c1) (.slice A2 n2 c2) has st top df)] w fun e w' => e = .returned (.bool (latB t g has st top)) ∧ Gr w w' := by
  obtain ⟨W1, hW1, hg1, hb1⟩ := fdbox w t (.slice A n c) o g
  obtain ⟨W, hW, hg2, hs⟩ : ∃ W, W = W1.alloc (.cells (fsc k m (.slice A1 n1 c1) (.slice A2 n2 c2) has st top df) 39) ∧ Gr W1 W ∧ W.heap[W1.heap.size]? = some (.cells (fsc k m (.slice A1 n1 c1) (.slice A2 n2 c2) has st top df) 39 (0, 0)) := ⟨_, rfl, (Gr.refl _).alloc _, heap_alloc _ _ _⟩
  have hsz : W1.heap.size = w.heap.size + 1 := by rw [hW1]; simp
  rw [hsz] at hs
  have hb := hb1.gr hg2
  have HG := Lib.hid (hg1.trans hg2)
  rw [hW1] at hW
  obtain ⟨S, hS⟩ : ∃ S, S = w.heap.size + 1 := ⟨_, rfl⟩
  obtain ⟨P, hP⟩ : ∃ S, S = w.heap.size := ⟨_, rfl⟩
  rw [← hS] at hs
  rw [← hP] at hb
  clear hb1 hg1 hg2 hsz hW1
  cases has with
  | false =>
    have s4 : W.cell? ⟨S, 4, none⟩ = some (.bool false) := by rw [cell_of_block hs]; rfl
    have HE : Hid (latB t g false st top = true) := Lib.hid rfl
    have HC : Hid (W.cell? ⟨S, 4, none⟩ = some (.bool false) ∧ Gr w W) := Lib.hid ⟨s4, HG.out⟩
    clear hs hb s4
    go_enter Tryz.func96, Tryz.ntmps96
    go_upto_region 1 with (fail)
    change Code.wp Tryz.prog _ _ _ ((w.alloc (.cells (decs t (.slice A n c) o g) 94)).alloc (.cells (fsc k m (.slice A1 n1 c1) (.slice A2 n2 c2) false st top df) 39))
    rw [← hW, ← hS, ← hP]
    clear hW hS hP
    refine qRegion (fun w' => w'.cell? ⟨S, 4, none⟩ = some (.bool false) ∧ Gr w w') (by kernel_rfl) (by kernel_rfl) ⟨(Gr.refl _).drew.cell HC.out.1, HC.out.2.drew⟩ ?_
    iterate 4
      refine qTake (by kernel_rfl) ?_
      apply Exists.intro
      refine ⟨fun wq hq => ?_, ?_⟩
      · go_light
        obtain ⟨s4, -⟩ := hq
        go_simp
        try with_reducible rfl
        done
      try simp only [Act.put, List.setIfInBounds_toArray, List.set_cons_zero, List.set_cons_succ]
    iterate 14
      refine qSkip (by kernel_rfl) ?_
      try simp only [Act.put, List.setIfInBounds_toArray, List.set_cons_zero, List.set_cons_succ]
    iterate 2
      refine qTake (by kernel_rfl) ?_
      apply Exists.intro
      refine ⟨fun wq hq => ?_, ?_⟩
      · go_light
        obtain ⟨s4, -⟩ := hq
        go_simp
        try with_reducible rfl
        done
      try simp only [Act.put, List.setIfInBounds_toArray, List.set_cons_zero, List.set_cons_succ]
    refine qNil ?_
    intro w3 hC
    have HG3 := Lib.hid hC.2
    clear hC
    go_wp2_with fail
    go_ret
    exact ⟨by rw [HE.out]; rfl, HG3.out⟩
  | true =>
    obtain ⟨z1, hz1⟩ : ∃ z, z = cmpZ t.stamp st := ⟨_, rfl⟩
    obtain ⟨z2, hz2⟩ : ∃ z, z = ordG g top := ⟨_, rfl⟩
    have C1 := Lib.hid (fun w1 => cmp_u64 (t.stamp : Int) (st : Int) w1)
    have C2 := Lib.hid (fun w1 => orderG_any g top w1)
    rw [← hz1] at C1
    rw [← hz2] at C2
    obtain ⟨z, hz⟩ : ∃ z, z = orL [z1, z2] := ⟨_, rfl⟩
    have HE : Hid (latB t g true st top = decide (0 < z)) := Lib.hid (by rw [hz, hz1, hz2]; rfl)
    have HZ := Lib.hid hz
    have HL : Hid (LGc w P S t (.slice A n c) o g st top W) := Lib.hid (by
      obtain ⟨g0, g1, g2, g3⟩ := hb.tg
      obtain ⟨-, -, p2, -⟩ := hb.tx
      refine ⟨p2, g0, g1, g2, g3, ?_, ?_, ?_, ?_, ?_, ?_, HG.out⟩ <;> (rw [cell_of_block hs]; rfl))
    obtain ⟨r, hr⟩ : ∃ r, r = latB t g true st top := ⟨_, rfl⟩
    rw [← hr] at HE ⊢
    clear hs hb hz1 hz2 hz hr
    go_enter Tryz.func96, Tryz.ntmps96
    go_upto_region 1 with (fail)
    change Code.wp Tryz.prog _ _ _ ((w.alloc (.cells (decs t (.slice A n c) o g) 94)).alloc (.cells (fsc k m (.slice A1 n1 c1) (.slice A2 n2 c2) true st top df) 39))
    rw [← hW, ← hS, ← hP]
    clear hW hS hP
    refine qTail 15 (fun w' => LGc w P S t (.slice A n c) o g st top w') (by kernel_rfl) (by kernel_rfl) (HL.out.next (Gr.refl _).drew) ?_
    simp only [List.take_succ_cons, List.take_zero, List.drop_succ_cons, List.drop_zero]
    iterate 9
      refine qTake (by kernel_rfl) ?_
      apply Exists.intro
      refine ⟨fun wq hq => ?_, ?_⟩
      · go_light
        obtain ⟨a0, d0, d1, d2, d3, h4, s5, e0, e1, e2, e3, -⟩ := hq
        go_simp
        try with_reducible rfl
        done
      try simp only [Act.put, List.setIfInBounds_toArray, List.set_cons_zero, List.set_cons_succ]
    refine qCall (by kernel_rfl) ?_
    apply Exists.intro
    refine ⟨?_, ?_⟩
    · apply Exists.intro
      apply Exists.intro
      refine ⟨fun wq => ?_, fun wq hq => ?_⟩
      · go_light
        go_simp
        exact ⟨rfl, rfl⟩
      · exact (C1.out wq).mono fun e w'' ⟨he, hw⟩ => ⟨he, by rw [hw]; exact hq⟩
    try simp only [Act.put, List.setIfInBounds_toArray, List.set_cons_zero, List.set_cons_succ]
    iterate 4
      refine qTake (by kernel_rfl) ?_
      apply Exists.intro
      refine ⟨fun wq hq => ?_, ?_⟩
      · go_light
        obtain ⟨a0, d0, d1, d2, d3, h4, s5, e0, e1, e2, e3, -⟩ := hq
        go_simp
        try with_reducible rfl
        done
      try simp only [Act.put, List.setIfInBounds_toArray, List.set_cons_zero, List.set_cons_succ]
    refine qCall (by kernel_rfl) ?_
    apply Exists.intro
    refine ⟨?_, ?_⟩
    · apply Exists.intro
      apply Exists.intro
      refine ⟨fun wq => ?_, fun wq hq => ?_⟩
      · go_light
        go_simp
        exact ⟨rfl, rfl⟩
      · exact (C2.out wq).mono fun e w'' ⟨he, hw⟩ => ⟨he, hq.next hw⟩
    try simp only [Act.put, List.setIfInBounds_toArray, List.set_cons_zero, List.set_cons_succ]
    refine qNil ?_
    intro w3 hC
    have HQ : Hid (Gr w w3) := Lib.hid hC.gr
    clear hC
    obtain ⟨w4, hw4⟩ : ∃ z, z = w3.alloc (.cells #[.int .i64 z1, .int .i64 z2] 3) := ⟨_, rfl⟩
    have HOR := Lib.hid (or_any [z1, z2] w3.heap.size w4 (by show 2 ≤ 1000; decide) (fun j hj => by
      have hb : w4.heap[w3.heap.size]? = some (.cells #[.int .i64 z1, .int .i64 z2] 3 (0, 0)) := by rw [hw4]; exact heap_alloc _ _ _
      rw [cell_of_block hb]
      have hj5 : j < 2 := hj
      match j, hj5 with
      | 0, _ => rfl
      | 1, _ => rfl))
    have HG4 : Hid (Gr w w4) := Lib.hid (by rw [hw4]; exact HQ.out.alloc _)
    rw [hw4] at HOR HG4
    clear hw4
    rw [← HZ.out] at HOR
    go_wp2_with fail
    refine HOR.out.mono ?_
    rintro e w5 ⟨rfl, hw5⟩
    have HW5 := Lib.hid hw5
    clear hw5
    by_cases h0 : 0 < z
    · have HE2 : Hid (r = true) := Lib.hid (by rw [HE.out, decide_eq_true h0])
      have hd : decide (0 < z) = true := decide_eq_true h0
      have hd2 : decide (z > 0) = true := decide_eq_true h0
      go_wp2_with fail
      go_ret
      exact ⟨by rw [HE2.out]; rfl, by rw [HW5.out]; exact HG4.out⟩
    · have HE2 : Hid (r = false) := Lib.hid (by rw [HE.out, decide_eq_false h0])
      have hd : decide (0 < z) = false := decide_eq_false h0
      have hd2 : decide (z > 0) = false := decide_eq_false h0
      go_wp2_with fail
      go_ret
      exact ⟨by rw [HE2.out]; rfl, by rw [HW5.out]; exact HG4.out⟩
end Go.Proofs.YtlihcjlonafohaaGreat
