/- Walks: operations in a list; what may not be beside an operation, and what it owes, both. -/
import Derived.Test.YtnjmgknicffcbaaGreatDoorZr45
import Derived.Test.YtnjmgknicffcbaaGreatDoorZr05
namespace Go.Proofs.YtnjmgknicffcbaaGreatDoor
open Go.RowKit Go.Joins
set_option linter.unusedSimpArgs false
set_option linter.unusedVariables false

def zO : TO := ⟨0, ⟨#[]⟩, ⟨#[]⟩, 0⟩
/-- An operation lies in this block, all of it. -/
def OBox (w : World) (b : Nat) (o : TO) : Prop := w.heap[b]? = some (.cells (tovs o) 52 (0, 0))
/-- Its four cells. -/
def TC4 (w : World) (b : Nat) (o : TO) : Prop := w.cell? ⟨b, 0, none⟩ = some (.int .i64 o.kind) ∧ w.cell? ⟨b, 1, none⟩ = some (.string o.key) ∧ w.cell? ⟨b, 2, none⟩ = some (.string o.elem) ∧ w.cell? ⟨b, 3, none⟩ = some (.int .i64 o.n)
theorem TC4.gr {w w' : World} {b : Nat} {o : TO} (h : TC4 w b o) (g : Gr w w') : TC4 w' b o := ⟨g.cell h.1, g.cell h.2.1, g.cell h.2.2.1, g.cell h.2.2.2⟩
theorem OBox.gr {w w' : World} {b : Nat} {o : TO} (h : OBox w b o) (g : Gr w w') : OBox w' b o := gr_obj g h
theorem OBox.c4 {w : World} {b : Nat} {o : TO} (h : OBox w b o) : TC4 w b o := ⟨obj_cell h rfl, obj_cell h rfl, obj_cell h rfl, obj_cell h rfl⟩
theorem OBox.free {w : World} {b : Nat} {o : TO} (h : OBox w b o) (i : Nat) : w.frozen? ⟨b, i, none⟩ = false := obj_free h
theorem obox4 (w : World) (o : TO) : ∃ W, W = w.alloc (.cells (tovs o) 52) ∧ Gr w W ∧ OBox W w.heap.size o := ⟨_, rfl, (Gr.refl w).alloc _, heap_allocR _ _ _⟩
theorem set4_box {w : World} {b : Nat} {y : TO} (h : OBox w b y) (o : TO) : OBox ((((w.setCell ⟨b, 0, none⟩ (.int .i64 o.kind)).setCell ⟨b, 1, none⟩ (.string o.key)).setCell ⟨b, 2, none⟩ (.string o.elem)).setCell ⟨b, 3, none⟩ (.int .i64 o.n)) b o :=
  set_obj (i := 3) (set_obj (i := 2) (set_obj (i := 1) (set_obj (i := 0) h (.int .i64 o.kind)) (.string o.key)) (.string o.elem)) (.int .i64 o.n)
theorem set4_gr {w0 w : World} {b : Nat} (g : Gr w0 w) (hb : w0.heap.size ≤ b) (o : TO) : Gr w0 ((((w.setCell ⟨b, 0, none⟩ (.int .i64 o.kind)).setCell ⟨b, 1, none⟩ (.string o.key)).setCell ⟨b, 2, none⟩ (.string o.elem)).setCell ⟨b, 3, none⟩ (.int .i64 o.n)) :=
  Below.setCell (Below.setCell (Below.setCell (Below.setCell g hb _) hb _) hb _) hb _
theorem oinfo : (Tryz.prog.info? 52).map (·.size) = some 4 := by kernel_rfl
theorem OBox.ld {w : World} {b : Nat} {o : TO} (h : OBox w b o) : (loadVar 52 ⟨b, 0, none⟩).run Tryz.prog w = .ok (.agg (tovs o)) w :=
  run_loadVar_row w b 52 52 (tovs o) (0, 0) _ h Tryz.underlying52 rfl oinfo
set_option maxRecDepth 100000 in
set_option maxHeartbeats 1000000 in
theorem indexO_any (v : Value) (ops : List TO) (y : TO) (w : World) (hv : TOV w v ops) :
    Calls Tryz.prog 152 #[v, .agg (tovs y)] w fun e w' => (∃ k : Int, e = .returned (.int .i64 k) ∧ ((0 ≤ k) ↔ hasO ops y = true)) ∧ Gr w w' := by
  obtain ⟨A, c, rfl, l1, ⟨l2, _⟩, l3⟩ := hv
  have l2' : c ≤ 9223372036854775807 := l2
  have HP := Lib.hid l3
  obtain ⟨W, hW, hgW, hbW⟩ := obox4 w y
  obtain ⟨n, hn⟩ : ∃ n, n = ops.length := ⟨_, rfl⟩
  have HN := Lib.hid hn
  rw [← hn] at l1 ⊢
  have HGW := Lib.hid hgW
  have HBW := Lib.hid hbW
  clear l3 l2 hn hgW hbW
  unfold tovs
  go_enter Tryz.func152, Tryz.ntmps152
  go_upto_region 1 with (fail)
  change Code.wp Tryz.prog _ _ _ (w.alloc (.cells (tovs y) 52))
  rw [← hW]
  clear hW
  go_wp2_with fail
  go_loopg [8] (n + 1) (fun kx s8 wr => ∃ j : Nat, s8 = .int .i64 (j : Int) ∧ j ≤ n ∧ n - j ≤ kx ∧ Hid (∀ i (h : i < ops.length), i < j → eqTO y ops[i] = false) ∧ Hid (Gr W wr))
  case atStart => exact ⟨0, rfl, Nat.zero_le _, by omega, Lib.hid (fun i _ h => absurd h (Nat.not_lt_zero _)), Lib.hid (Gr.refl _)⟩
  case round =>
    obtain ⟨j, rfl, hj, hkx, HB, HG⟩ := hrel
    by_cases hlt : j < n
    · have hjL : j < ops.length := by rw [← HN.out]; exact hlt
      obtain ⟨b, off, rfl, q5⟩ := HP.out j hjL
      obtain ⟨x, hx⟩ : ∃ x, x = ops[j] := ⟨_, rfl⟩
      rw [← hx] at q5
      obtain ⟨c0, c1, c2, c3⟩ := (q5.gr HGW.out).gr HG.out
      obtain ⟨y0, y1, y2, y3⟩ := (HBW.out.gr HG.out).c4
      have u0 : (0 : Int) ≤ (j : Int) := by omega
      have u1 : (j : Int) < (n : Int) := by omega
      have u2 : wrap64 ((j : Int) + 1) = ((j + 1 : Nat) : Int) := by unfold wrap64; omega
      have he := fun w => equal_to y x w
      unfold tovs at he
      rcases hq : eqTO y x with _ | _
      · rw [hq] at he
        have HB2 : Hid (∀ i (h : i < ops.length), i < j + 1 → eqTO y ops[i] = false) := Lib.hid (fun i h hi => by
          by_cases e : i = j
          · subst e; rw [← hx]; exact hq
          · exact HB.out i h (by omega))
        clear hq hx q5 hjL
        go_wp2_with fail
        go_quiet (fail)
        go_wp2
        go_roundg (n - (j + 1))
        case measure => omega
        case rel => exact ⟨j + 1, by go_num, by omega, Nat.le_refl _, HB2, Lib.hid (HG.out.drewN _)⟩
      · rw [hq] at he
        have HY : Hid (hasO ops y = true) := Lib.hid (List.any_eq_true.2 ⟨ops[j], List.getElem_mem hjL, by rw [← hx]; exact hq⟩)
        clear hq hx q5 hjL
        go_wp2_with fail
        go_quiet (fail)
        go_wp2
        go_ret
        exact ⟨⟨(j : Int), rfl, by rw [HY.out]; simp⟩, HGW.out.trans (HG.out.drewN _)⟩
    · have HY : Hid (hasO ops y = false) := Lib.hid (List.any_eq_false.2 fun x hx => by
        obtain ⟨i, hi, rfl⟩ := List.mem_iff_getElem.1 hx
        rw [HB.out i hi (by rw [← HN.out] at hi; omega)]; decide)
      have u1 : ¬ (j : Int) < (n : Int) := by omega
      go_wp2_with fail
      go_ret
      exact ⟨⟨-1, rfl, by rw [HY.out]; simp⟩, HGW.out.trans HG.out⟩
set_option maxRecDepth 100000 in
theorem containsO_any (v : Value) (ops : List TO) (y : TO) (w : World) (hv : TOV w v ops) :
    Calls Tryz.prog 120 #[v, .agg (tovs y)] w fun e w' => e = .returned (.bool (hasO ops y)) ∧ Gr w w' := by
  obtain ⟨W, hW, hgW, hbW⟩ := obox4 w y
  have H1 := Lib.hid (indexO_any v ops y W (hv.gr hgW))
  have HGW := Lib.hid hgW
  obtain ⟨y0, y1, y2, y3⟩ := hbW.c4
  clear hv hgW hbW
  unfold tovs at H1 ⊢
  go_enter Tryz.func120, Tryz.ntmps120
  go_upto_region 1 with (fail)
  change Code.wp Tryz.prog _ _ _ (w.alloc (.cells (tovs y) 52))
  rw [← hW]
  clear hW
  go_wp2_with fail
  refine H1.out.mono ?_
  rintro e w1 ⟨⟨k, rfl, hk⟩, g1⟩
  have HG := Lib.hid (HGW.out.trans g1)
  rcases hb : hasO ops y with _ | _
  · have t0 : ¬ (0 : Int) ≤ k := fun h => by rw [hk.1 h] at hb; cases hb
    have HBV := Lib.hid hb
    clear hk g1 hb
    go_wp2_with fail
    go_ret
    exact ⟨by rw [HBV.out]; first | rfl | (simp; done) | (simp; omega), HG.out⟩
  · have t0 : (0 : Int) ≤ k := hk.2 hb
    have HBV := Lib.hid hb
    clear hk g1 hb
    go_wp2_with fail
    go_ret
    exact ⟨by rw [HBV.out]; first | rfl | (simp; done) | (simp; omega), HG.out⟩
set_option maxRecDepth 100000 in
set_option maxHeartbeats 1000000 in
theorem reverse_any (o : TO) (w : World) :
    Calls Tryz.prog 119 #[.agg (tovs o)] w fun e w' => e = .returned (.tuple #[.agg (tovs ((revO o).getD zO)), .bool (revO o).isSome]) ∧ Gr w w' := by
  obtain ⟨W, hW, hg, hb⟩ := obox4 w o
  obtain ⟨W2, hW2, hg2, hb2⟩ := obox4 W zO
  have hs : W.heap.size = w.heap.size + 1 := by rw [hW]; simp
  rw [hs] at hb2
  have HG := Lib.hid (hg.trans hg2)
  have HBZ := Lib.hid hb2
  obtain ⟨c0, c1, c2, c3⟩ := (hb.gr hg2).c4
  obtain ⟨z0, z1, z2, z3⟩ := hb2.c4
  have f0 := hb2.free 0
  have f1 := hb2.free 1
  have f2 := hb2.free 2
  have f3 := hb2.free 3
  clear hg hg2 hb hb2 hs
  by_cases h4 : o.kind = 4
  · have k4 : (o.kind == 4) = true := by rw [h4]; rfl
    have HZ : Hid (revO o = some ⟨5, o.key, o.elem, 0⟩) := Lib.hid (by unfold revO; rw [if_pos h4])
    clear h4
    go_enter Tryz.func119, Tryz.ntmps119
    go_upto_region 1 with (fail)
    change Code.wp Tryz.prog _ _ _ ((w.alloc (.cells (tovs o) 52)).alloc (.cells (tovs zO) 52))
    rw [← hW, ← hW2]
    clear hW hW2
    go_wp2_with fail
    obtain ⟨wf, hwf, hbx, hgf⟩ : ∃ wf, wf = ((((W2.setCell ⟨w.heap.size + 1, 0, none⟩ (.int .i64 5)).setCell ⟨w.heap.size + 1, 1, none⟩ (.string o.key)).setCell ⟨w.heap.size + 1, 2, none⟩ (.string o.elem)).setCell ⟨w.heap.size + 1, 3, none⟩ (.int .i64 0)) ∧ OBox wf (w.heap.size + 1) ⟨5, o.key, o.elem, 0⟩ ∧ Gr w wf := ⟨_, rfl, set4_box HBZ.out ⟨5, o.key, o.elem, 0⟩, set4_gr HG.out (by omega) ⟨5, o.key, o.elem, 0⟩⟩
    rw [← hwf]
    have hld := hbx.ld
    rw [HZ.out]
    exact bodyPost_ret (v := .tuple #[.agg (tovs ⟨5, o.key, o.elem, 0⟩), .bool true]) (by simp [results, Tryz.results119, asAddr, hld]) rfl ⟨rfl, hgf⟩
  · by_cases h8 : o.kind = 8
    · have k4 : (o.kind == 4) = false := by simpa using h4
      have k8 : (o.kind == 8) = true := by rw [h8]; rfl
      have HZ : Hid (revO o = some ⟨7, o.key, ⟨#[]⟩, 0⟩) := Lib.hid (by unfold revO; rw [if_neg h4, if_pos h8])
      clear h4 h8
      go_enter Tryz.func119, Tryz.ntmps119
      go_upto_region 1 with (fail)
      change Code.wp Tryz.prog _ _ _ ((w.alloc (.cells (tovs o) 52)).alloc (.cells (tovs zO) 52))
      rw [← hW, ← hW2]
      clear hW hW2
      go_wp2_with fail
      obtain ⟨wf, hwf, hbx, hgf⟩ : ∃ wf, wf = ((((W2.setCell ⟨w.heap.size + 1, 0, none⟩ (.int .i64 7)).setCell ⟨w.heap.size + 1, 1, none⟩ (.string o.key)).setCell ⟨w.heap.size + 1, 2, none⟩ (.string ⟨#[]⟩)).setCell ⟨w.heap.size + 1, 3, none⟩ (.int .i64 0)) ∧ OBox wf (w.heap.size + 1) ⟨7, o.key, ⟨#[]⟩, 0⟩ ∧ Gr w wf := ⟨_, rfl, set4_box HBZ.out ⟨7, o.key, ⟨#[]⟩, 0⟩, set4_gr HG.out (by omega) ⟨7, o.key, ⟨#[]⟩, 0⟩⟩
      rw [← hwf]
      have hld := hbx.ld
      rw [HZ.out]
      exact bodyPost_ret (v := .tuple #[.agg (tovs ⟨7, o.key, ⟨#[]⟩, 0⟩), .bool true]) (by simp [results, Tryz.results119, asAddr, hld]) rfl ⟨rfl, hgf⟩
    · have k4 : (o.kind == 4) = false := by simpa using h4
      have k8 : (o.kind == 8) = false := by simpa using h8
      have HZ : Hid (revO o = none) := Lib.hid (by unfold revO; rw [if_neg h4, if_neg h8])
      go_enter Tryz.func119, Tryz.ntmps119
      go_upto_region 1 with (fail)
      change Code.wp Tryz.prog _ _ _ ((w.alloc (.cells (tovs o) 52)).alloc (.cells (tovs zO) 52))
      rw [← hW, ← hW2]
      clear hW hW2
      go_wp2_with fail
      obtain ⟨wf, hwf, hbx, hgf⟩ : ∃ wf, wf = ((((W2.setCell ⟨w.heap.size + 1, 0, none⟩ (.int .i64 0)).setCell ⟨w.heap.size + 1, 1, none⟩ (.string ⟨#[]⟩)).setCell ⟨w.heap.size + 1, 2, none⟩ (.string ⟨#[]⟩)).setCell ⟨w.heap.size + 1, 3, none⟩ (.int .i64 0)) ∧ OBox wf (w.heap.size + 1) zO ∧ Gr w wf := ⟨_, rfl, set4_box HBZ.out zO, set4_gr HG.out (by omega) zO⟩
      rw [← hwf]
      have hld := hbx.ld
      rw [HZ.out]
      exact bodyPost_ret (v := .tuple #[.agg (tovs zO), .bool false]) (by simp [results, Tryz.results119, asAddr, hld]) rfl ⟨rfl, hgf⟩
theorem debt_1 {r : RU} {o : TO} (h9 : r.k = 9) (h4 : o.kind = 4) (q : eqS o.key r.key = true) : debtO r o = some ⟨4, r.other, o.elem, 0⟩ := by
  unfold debtO; rw [if_pos ⟨h9, h4, eqS_iff.1 q⟩]
theorem debt_2 {r : RU} {o : TO} (h9 : r.k = 9) (h5 : o.kind = 5) (q : eqS o.key r.other = true) : debtO r o = some ⟨5, r.key, o.elem, 0⟩ := by
  unfold debtO; rw [if_neg (by rintro ⟨_, h, _⟩; omega), if_pos ⟨h9, h5, eqS_iff.1 q⟩]
theorem debt_3 {r : RU} {o : TO} (h10 : r.k = 10) (h8 : o.kind = 8) (q : eqS o.key r.key = true) : debtO r o = some ⟨7, r.other, ⟨#[]⟩, 0⟩ := by
  unfold debtO; rw [if_neg (by rintro ⟨_, h, _⟩; omega), if_neg (by rintro ⟨_, h, _⟩; omega), if_pos ⟨h10, h8, eqS_iff.1 q⟩]
theorem debt_4 {r : RU} {o : TO} (h10 : r.k = 10) (h8 : o.kind = 8) (q : eqS o.key r.key = false) (q2 : eqS o.key r.other = true) : debtO r o = some ⟨7, r.key, ⟨#[]⟩, 0⟩ := by
  unfold debtO; rw [if_neg (by rintro ⟨_, h, _⟩; omega), if_neg (by rintro ⟨_, h, _⟩; omega), if_neg (by rintro ⟨_, _, h⟩; rw [eqS_iff.2 h] at q; cases q), if_pos ⟨h10, h8, eqS_iff.1 q2⟩]
theorem debt_none {r : RU} {o : TO} (h : (r.k = 9 ∧ o.kind = 4 ∧ eqS o.key r.key = true) ∨ (r.k = 9 ∧ o.kind = 5 ∧ eqS o.key r.other = true) ∨ (r.k = 10 ∧ o.kind = 8 ∧ eqS o.key r.key = true) ∨ (r.k = 10 ∧ o.kind = 8 ∧ eqS o.key r.other = true) → False) : debtO r o = none := by
  unfold debtO
  rw [if_neg (fun ⟨a, b, c⟩ => h (.inl ⟨a, b, eqS_iff.2 c⟩)), if_neg (fun ⟨a, b, c⟩ => h (.inr (.inl ⟨a, b, eqS_iff.2 c⟩))), if_neg (fun ⟨a, b, c⟩ => h (.inr (.inr (.inl ⟨a, b, eqS_iff.2 c⟩)))), if_neg (fun ⟨a, b, c⟩ => h (.inr (.inr (.inr ⟨a, b, eqS_iff.2 c⟩))))]
set_option maxRecDepth 100000 in
set_option maxHeartbeats 4000000 in
theorem debt_any (r : RU) (o : TO) (w : World) :
    Calls Tryz.prog 121 #[.agg (ruv r), .agg (tovs o)] w fun e w' => e = .returned (.tuple #[.agg (tovs ((debtO r o).getD zO)), .bool (debtO r o).isSome]) ∧ Gr w w' := by
  obtain ⟨W, hW, hg, hr⟩ := rubox5 w r
  obtain ⟨W2, hW2, hg2, hb⟩ := obox4 W o
  obtain ⟨W3, hW3, hg3, hb3⟩ := obox4 W2 zO
  have hs : W.heap.size = w.heap.size + 1 := by rw [hW]; simp
  have hs2 : W2.heap.size = w.heap.size + 1 + 1 := by rw [hW2]; simp [hs]
  rw [hs] at hb
  rw [hs2] at hb3
  have HG := Lib.hid ((hg.trans hg2).trans hg3)
  have HBZ := Lib.hid hb3
  obtain ⟨r0, r1, r2, r3, r4⟩ := (hr.gr hg2).gr hg3
  obtain ⟨c0, c1, c2, c3⟩ := (hb.gr hg3).c4
  obtain ⟨z0, z1, z2, z3⟩ := hb3.c4
  have f0 := hb3.free 0
  have f1 := hb3.free 1
  have f2 := hb3.free 2
  have f3 := hb3.free 3
  have ekk : ∀ q, eqS o.key r.key = q → (o.key.toList == r.key.toList) = q := fun q h => h
  have eko : ∀ q, eqS o.key r.other = q → (o.key.toList == r.other.toList) = q := fun q h => h
  clear hg hg2 hg3 hb hb3 hs hs2 hr
  by_cases h9 : r.k = 9
  · have r9 : (r.k == 9) = true := by rw [h9]; rfl
    have r10 : (r.k == 10) = false := by rw [h9]; rfl
    by_cases h4 : o.kind = 4
    · have o4 : (o.kind == 4) = true := by rw [h4]; rfl
      have o5 : (o.kind == 5) = false := by rw [h4]; rfl
      have o8 : (o.kind == 8) = false := by rw [h4]; rfl
      rcases q1 : eqS o.key r.key with _ | _
      · have HZ : Hid (debtO r o = none) := Lib.hid (debt_none (by simp only [h9, h4, q1]; simp))
        clear h9 h4
        go_enter Tryz.func121, Tryz.ntmps121
        go_upto_region 1 with (fail)
        change Code.wp Tryz.prog _ _ _ (((w.alloc (.cells (ruv r) 49)).alloc (.cells (tovs o) 52)).alloc (.cells (tovs zO) 52))
        rw [← hW, ← hW2, ← hW3]
        clear hW hW2 hW3
        go_wp2_with fail
        obtain ⟨wf, hwf, hbx, hgf⟩ : ∃ wf, wf = ((((W3.setCell ⟨w.heap.size + 1 + 1, 0, none⟩ (.int .i64 0)).setCell ⟨w.heap.size + 1 + 1, 1, none⟩ (.string ⟨#[]⟩)).setCell ⟨w.heap.size + 1 + 1, 2, none⟩ (.string ⟨#[]⟩)).setCell ⟨w.heap.size + 1 + 1, 3, none⟩ (.int .i64 0)) ∧ OBox wf (w.heap.size + 1 + 1) zO ∧ Gr w wf := ⟨_, rfl, set4_box HBZ.out zO, set4_gr HG.out (by omega) zO⟩
        rw [← hwf]
        have hld := hbx.ld
        rw [HZ.out]
        exact bodyPost_ret (v := .tuple #[.agg (tovs zO), .bool false]) (by simp [results, Tryz.results121, asAddr, hld]) rfl ⟨rfl, hgf⟩
      · have HZ : Hid (debtO r o = some ⟨4, r.other, o.elem, 0⟩) := Lib.hid (debt_1 h9 h4 q1)
        clear h9 h4
        go_enter Tryz.func121, Tryz.ntmps121
        go_upto_region 1 with (fail)
        change Code.wp Tryz.prog _ _ _ (((w.alloc (.cells (ruv r) 49)).alloc (.cells (tovs o) 52)).alloc (.cells (tovs zO) 52))
        rw [← hW, ← hW2, ← hW3]
        clear hW hW2 hW3
        go_wp2_with fail
        obtain ⟨wf, hwf, hbx, hgf⟩ : ∃ wf, wf = ((((W3.setCell ⟨w.heap.size + 1 + 1, 0, none⟩ (.int .i64 4)).setCell ⟨w.heap.size + 1 + 1, 1, none⟩ (.string r.other)).setCell ⟨w.heap.size + 1 + 1, 2, none⟩ (.string o.elem)).setCell ⟨w.heap.size + 1 + 1, 3, none⟩ (.int .i64 0)) ∧ OBox wf (w.heap.size + 1 + 1) ⟨4, r.other, o.elem, 0⟩ ∧ Gr w wf := ⟨_, rfl, set4_box HBZ.out ⟨4, r.other, o.elem, 0⟩, set4_gr HG.out (by omega) ⟨4, r.other, o.elem, 0⟩⟩
        rw [← hwf]
        have hld := hbx.ld
        rw [HZ.out]
        exact bodyPost_ret (v := .tuple #[.agg (tovs ⟨4, r.other, o.elem, 0⟩), .bool true]) (by simp [results, Tryz.results121, asAddr, hld]) rfl ⟨rfl, hgf⟩
    · by_cases h5 : o.kind = 5
      · have o4 : (o.kind == 4) = false := by rw [h5]; rfl
        have o5 : (o.kind == 5) = true := by rw [h5]; rfl
        have o8 : (o.kind == 8) = false := by rw [h5]; rfl
        rcases q1 : eqS o.key r.other with _ | _
        · have HZ : Hid (debtO r o = none) := Lib.hid (debt_none (by simp only [h9, h4, h5, q1]; simp))
          clear h9 h4 h5
          go_enter Tryz.func121, Tryz.ntmps121
          go_upto_region 1 with (fail)
          change Code.wp Tryz.prog _ _ _ (((w.alloc (.cells (ruv r) 49)).alloc (.cells (tovs o) 52)).alloc (.cells (tovs zO) 52))
          rw [← hW, ← hW2, ← hW3]
          clear hW hW2 hW3
          go_wp2_with fail
          obtain ⟨wf, hwf, hbx, hgf⟩ : ∃ wf, wf = ((((W3.setCell ⟨w.heap.size + 1 + 1, 0, none⟩ (.int .i64 0)).setCell ⟨w.heap.size + 1 + 1, 1, none⟩ (.string ⟨#[]⟩)).setCell ⟨w.heap.size + 1 + 1, 2, none⟩ (.string ⟨#[]⟩)).setCell ⟨w.heap.size + 1 + 1, 3, none⟩ (.int .i64 0)) ∧ OBox wf (w.heap.size + 1 + 1) zO ∧ Gr w wf := ⟨_, rfl, set4_box HBZ.out zO, set4_gr HG.out (by omega) zO⟩
          rw [← hwf]
          have hld := hbx.ld
          rw [HZ.out]
          exact bodyPost_ret (v := .tuple #[.agg (tovs zO), .bool false]) (by simp [results, Tryz.results121, asAddr, hld]) rfl ⟨rfl, hgf⟩
        · have HZ : Hid (debtO r o = some ⟨5, r.key, o.elem, 0⟩) := Lib.hid (debt_2 h9 h5 q1)
          clear h9 h4 h5
          go_enter Tryz.func121, Tryz.ntmps121
          go_upto_region 1 with (fail)
          change Code.wp Tryz.prog _ _ _ (((w.alloc (.cells (ruv r) 49)).alloc (.cells (tovs o) 52)).alloc (.cells (tovs zO) 52))
          rw [← hW, ← hW2, ← hW3]
          clear hW hW2 hW3
          go_wp2_with fail
          obtain ⟨wf, hwf, hbx, hgf⟩ : ∃ wf, wf = ((((W3.setCell ⟨w.heap.size + 1 + 1, 0, none⟩ (.int .i64 5)).setCell ⟨w.heap.size + 1 + 1, 1, none⟩ (.string r.key)).setCell ⟨w.heap.size + 1 + 1, 2, none⟩ (.string o.elem)).setCell ⟨w.heap.size + 1 + 1, 3, none⟩ (.int .i64 0)) ∧ OBox wf (w.heap.size + 1 + 1) ⟨5, r.key, o.elem, 0⟩ ∧ Gr w wf := ⟨_, rfl, set4_box HBZ.out ⟨5, r.key, o.elem, 0⟩, set4_gr HG.out (by omega) ⟨5, r.key, o.elem, 0⟩⟩
          rw [← hwf]
          have hld := hbx.ld
          rw [HZ.out]
          exact bodyPost_ret (v := .tuple #[.agg (tovs ⟨5, r.key, o.elem, 0⟩), .bool true]) (by simp [results, Tryz.results121, asAddr, hld]) rfl ⟨rfl, hgf⟩
      · have o4 : (o.kind == 4) = false := by simpa using h4
        have o5 : (o.kind == 5) = false := by simpa using h5
        have HZ : Hid (debtO r o = none) := Lib.hid (debt_none (by simp only [h9, h4, h5]; simp))
        clear h9 h4 h5
        go_enter Tryz.func121, Tryz.ntmps121
        go_upto_region 1 with (fail)
        change Code.wp Tryz.prog _ _ _ (((w.alloc (.cells (ruv r) 49)).alloc (.cells (tovs o) 52)).alloc (.cells (tovs zO) 52))
        rw [← hW, ← hW2, ← hW3]
        clear hW hW2 hW3
        go_wp2_with fail
        obtain ⟨wf, hwf, hbx, hgf⟩ : ∃ wf, wf = ((((W3.setCell ⟨w.heap.size + 1 + 1, 0, none⟩ (.int .i64 0)).setCell ⟨w.heap.size + 1 + 1, 1, none⟩ (.string ⟨#[]⟩)).setCell ⟨w.heap.size + 1 + 1, 2, none⟩ (.string ⟨#[]⟩)).setCell ⟨w.heap.size + 1 + 1, 3, none⟩ (.int .i64 0)) ∧ OBox wf (w.heap.size + 1 + 1) zO ∧ Gr w wf := ⟨_, rfl, set4_box HBZ.out zO, set4_gr HG.out (by omega) zO⟩
        rw [← hwf]
        have hld := hbx.ld
        rw [HZ.out]
        exact bodyPost_ret (v := .tuple #[.agg (tovs zO), .bool false]) (by simp [results, Tryz.results121, asAddr, hld]) rfl ⟨rfl, hgf⟩
  · by_cases h10 : r.k = 10
    · have r9 : (r.k == 9) = false := by simpa using h9
      have r10 : (r.k == 10) = true := by rw [h10]; rfl
      by_cases h8 : o.kind = 8
      · have o8 : (o.kind == 8) = true := by rw [h8]; rfl
        rcases q1 : eqS o.key r.key with _ | _
        · rcases q2 : eqS o.key r.other with _ | _
          · have HZ : Hid (debtO r o = none) := Lib.hid (debt_none (by simp only [h9, h10, h8, q1, q2]; simp))
            clear h9 h10 h8
            go_enter Tryz.func121, Tryz.ntmps121
            go_upto_region 1 with (fail)
            change Code.wp Tryz.prog _ _ _ (((w.alloc (.cells (ruv r) 49)).alloc (.cells (tovs o) 52)).alloc (.cells (tovs zO) 52))
            rw [← hW, ← hW2, ← hW3]
            clear hW hW2 hW3
            go_wp2_with fail
            obtain ⟨wf, hwf, hbx, hgf⟩ : ∃ wf, wf = ((((W3.setCell ⟨w.heap.size + 1 + 1, 0, none⟩ (.int .i64 0)).setCell ⟨w.heap.size + 1 + 1, 1, none⟩ (.string ⟨#[]⟩)).setCell ⟨w.heap.size + 1 + 1, 2, none⟩ (.string ⟨#[]⟩)).setCell ⟨w.heap.size + 1 + 1, 3, none⟩ (.int .i64 0)) ∧ OBox wf (w.heap.size + 1 + 1) zO ∧ Gr w wf := ⟨_, rfl, set4_box HBZ.out zO, set4_gr HG.out (by omega) zO⟩
            rw [← hwf]
            have hld := hbx.ld
            rw [HZ.out]
            exact bodyPost_ret (v := .tuple #[.agg (tovs zO), .bool false]) (by simp [results, Tryz.results121, asAddr, hld]) rfl ⟨rfl, hgf⟩
          · have HZ : Hid (debtO r o = some ⟨7, r.key, ⟨#[]⟩, 0⟩) := Lib.hid (debt_4 h10 h8 q1 q2)
            clear h9 h10 h8
            go_enter Tryz.func121, Tryz.ntmps121
            go_upto_region 1 with (fail)
            change Code.wp Tryz.prog _ _ _ (((w.alloc (.cells (ruv r) 49)).alloc (.cells (tovs o) 52)).alloc (.cells (tovs zO) 52))
            rw [← hW, ← hW2, ← hW3]
            clear hW hW2 hW3
            go_wp2_with fail
            obtain ⟨wf, hwf, hbx, hgf⟩ : ∃ wf, wf = ((((W3.setCell ⟨w.heap.size + 1 + 1, 0, none⟩ (.int .i64 7)).setCell ⟨w.heap.size + 1 + 1, 1, none⟩ (.string r.key)).setCell ⟨w.heap.size + 1 + 1, 2, none⟩ (.string ⟨#[]⟩)).setCell ⟨w.heap.size + 1 + 1, 3, none⟩ (.int .i64 0)) ∧ OBox wf (w.heap.size + 1 + 1) ⟨7, r.key, ⟨#[]⟩, 0⟩ ∧ Gr w wf := ⟨_, rfl, set4_box HBZ.out ⟨7, r.key, ⟨#[]⟩, 0⟩, set4_gr HG.out (by omega) ⟨7, r.key, ⟨#[]⟩, 0⟩⟩
            rw [← hwf]
            have hld := hbx.ld
            rw [HZ.out]
            exact bodyPost_ret (v := .tuple #[.agg (tovs ⟨7, r.key, ⟨#[]⟩, 0⟩), .bool true]) (by simp [results, Tryz.results121, asAddr, hld]) rfl ⟨rfl, hgf⟩
        · have HZ : Hid (debtO r o = some ⟨7, r.other, ⟨#[]⟩, 0⟩) := Lib.hid (debt_3 h10 h8 q1)
          clear h9 h10 h8
          go_enter Tryz.func121, Tryz.ntmps121
          go_upto_region 1 with (fail)
          change Code.wp Tryz.prog _ _ _ (((w.alloc (.cells (ruv r) 49)).alloc (.cells (tovs o) 52)).alloc (.cells (tovs zO) 52))
          rw [← hW, ← hW2, ← hW3]
          clear hW hW2 hW3
          go_wp2_with fail
          obtain ⟨wf, hwf, hbx, hgf⟩ : ∃ wf, wf = ((((W3.setCell ⟨w.heap.size + 1 + 1, 0, none⟩ (.int .i64 7)).setCell ⟨w.heap.size + 1 + 1, 1, none⟩ (.string r.other)).setCell ⟨w.heap.size + 1 + 1, 2, none⟩ (.string ⟨#[]⟩)).setCell ⟨w.heap.size + 1 + 1, 3, none⟩ (.int .i64 0)) ∧ OBox wf (w.heap.size + 1 + 1) ⟨7, r.other, ⟨#[]⟩, 0⟩ ∧ Gr w wf := ⟨_, rfl, set4_box HBZ.out ⟨7, r.other, ⟨#[]⟩, 0⟩, set4_gr HG.out (by omega) ⟨7, r.other, ⟨#[]⟩, 0⟩⟩
          rw [← hwf]
          have hld := hbx.ld
          rw [HZ.out]
          exact bodyPost_ret (v := .tuple #[.agg (tovs ⟨7, r.other, ⟨#[]⟩, 0⟩), .bool true]) (by simp [results, Tryz.results121, asAddr, hld]) rfl ⟨rfl, hgf⟩
      · have o8 : (o.kind == 8) = false := by simpa using h8
        have HZ : Hid (debtO r o = none) := Lib.hid (debt_none (by simp only [h9, h10, h8]; simp))
        clear h9 h10 h8
        go_enter Tryz.func121, Tryz.ntmps121
        go_upto_region 1 with (fail)
        change Code.wp Tryz.prog _ _ _ (((w.alloc (.cells (ruv r) 49)).alloc (.cells (tovs o) 52)).alloc (.cells (tovs zO) 52))
        rw [← hW, ← hW2, ← hW3]
        clear hW hW2 hW3
        go_wp2_with fail
        obtain ⟨wf, hwf, hbx, hgf⟩ : ∃ wf, wf = ((((W3.setCell ⟨w.heap.size + 1 + 1, 0, none⟩ (.int .i64 0)).setCell ⟨w.heap.size + 1 + 1, 1, none⟩ (.string ⟨#[]⟩)).setCell ⟨w.heap.size + 1 + 1, 2, none⟩ (.string ⟨#[]⟩)).setCell ⟨w.heap.size + 1 + 1, 3, none⟩ (.int .i64 0)) ∧ OBox wf (w.heap.size + 1 + 1) zO ∧ Gr w wf := ⟨_, rfl, set4_box HBZ.out zO, set4_gr HG.out (by omega) zO⟩
        rw [← hwf]
        have hld := hbx.ld
        rw [HZ.out]
        exact bodyPost_ret (v := .tuple #[.agg (tovs zO), .bool false]) (by simp [results, Tryz.results121, asAddr, hld]) rfl ⟨rfl, hgf⟩
    · have r9 : (r.k == 9) = false := by simpa using h9
      have r10 : (r.k == 10) = false := by simpa using h10
      have HZ : Hid (debtO r o = none) := Lib.hid (debt_none (by simp only [h9, h10]; simp))
      clear h9 h10
      go_enter Tryz.func121, Tryz.ntmps121
      go_upto_region 1 with (fail)
      change Code.wp Tryz.prog _ _ _ (((w.alloc (.cells (ruv r) 49)).alloc (.cells (tovs o) 52)).alloc (.cells (tovs zO) 52))
      rw [← hW, ← hW2, ← hW3]
      clear hW hW2 hW3
      go_wp2_with fail
      obtain ⟨wf, hwf, hbx, hgf⟩ : ∃ wf, wf = ((((W3.setCell ⟨w.heap.size + 1 + 1, 0, none⟩ (.int .i64 0)).setCell ⟨w.heap.size + 1 + 1, 1, none⟩ (.string ⟨#[]⟩)).setCell ⟨w.heap.size + 1 + 1, 2, none⟩ (.string ⟨#[]⟩)).setCell ⟨w.heap.size + 1 + 1, 3, none⟩ (.int .i64 0)) ∧ OBox wf (w.heap.size + 1 + 1) zO ∧ Gr w wf := ⟨_, rfl, set4_box HBZ.out zO, set4_gr HG.out (by omega) zO⟩
      rw [← hwf]
      have hld := hbx.ld
      rw [HZ.out]
      exact bodyPost_ret (v := .tuple #[.agg (tovs zO), .bool false]) (by simp [results, Tryz.results121, asAddr, hld]) rfl ⟨rfl, hgf⟩
end Go.Proofs.YtnjmgknicffcbaaGreatDoor
