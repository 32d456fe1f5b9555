/- Walks: the document's Value, kind 5. Written by wip/tools/genrv.py. -/
import Derived.Test.YtaldgjcbbjjceaaGVdI0
namespace Go.Proofs.Ytaldgjcbbjjceaa
open Go.RowKit Go.Joins
set_option linter.unusedSimpArgs false
set_option linter.unusedVariables false

set_option maxRecDepth 100000 in
set_option maxHeartbeats 8000000 in
theorem rvalK5 (start : Int) (u : Nat → S3) (l : LG) (v : Nat → Nat) (key : ByteArray) (w : World) (h : LV w u l) (hq : FitQ l) (hfc : FitC l) (hok : checkE l = 0) (hcl : closedB l v = true) (hb : wrap64 start = start) :
    Calls Try.prog 13 #[.int .i64 5, .int .i64 start, .agg (lcells u), .agg (vcells v), .string key] w fun e w' => RetR (rvR 5 start (ordR l v) key) 0 w e w' := by
  obtain ⟨W, hW, hg, hL, hV, hz⟩ := boxesVa u v w
  have HSW : Hid (w.heap.size + 1 + 1 < W.heap.size) := Lib.hid (by rw [hW]; simp)
  have HL := Lib.hid hL
  have HV := Lib.hid hV
  have HZ := Lib.hid hz
  have HG := Lib.hid hg
  have HBD := Lib.hid hb
  have hl := okL_iff.1 hok
  have HCK := Lib.hid (fun w1 (g : Gr W w1) => rcheck9_any u l w1 ((h.gr hg).gr g) hq)
  have HCL := Lib.hid (fun w1 (g : Gr W w1) => rclosed_any u l v w1 ((h.gr hg).gr g))
  have HOR := Lib.hid (fun w1 (g : Gr W w1) => rord9_any u l v w1 ((h.gr hg).gr g) hfc hl.len)
  rw [hok] at HCK
  rw [hcl] at HCL
  obtain ⟨O, hO⟩ : ∃ O, O = ordR l v := ⟨_, rfl⟩
  have HOP : Hid (∀ t ∈ O, t.ops.length ≤ 8) := Lib.hid (by rw [hO]; exact ok_ops hl)
  have HOL : Hid (O.length ≤ 65536) := Lib.hid (by rw [hO]; exact ok_len hl)
  rw [← hO] at HOR ⊢
  obtain ⟨l0, l1, l2, l3, l4, l5, l6, l7⟩ := hL.all
  clear hL hV hz hg h hq hfc hok hcl hb hl hO
  go_enter Try.func13, Try.ntmps13
  go_upto_region 1 with (fail)
  rw [← hW]
  clear hW
  go_wp2_with fail
  refine (HCK.out _ (Gr.refl _)).mono ?_
  rintro e w2 ⟨rfl, g2⟩
  have HG2 := Lib.hid g2
  clear g2 l0 l1 l2 l3 l4 l5 l6 l7
  obtain ⟨l0, l1, l2, l3, l4, l5, l6, l7⟩ := (HL.out.gr HG2.out).all
  obtain ⟨v0, v1, v2, v3, v4, v5, v6, v7⟩ := (HV.out.gr HG2.out).all
  go_wp2_with fail
  refine (HCL.out _ HG2.out).mono ?_
  rintro e w3 ⟨rfl, g3⟩
  have HG3 := Lib.hid (HG2.out.trans g3)
  clear g3 l0 l1 l2 l3 l4 l5 l6 l7 v0 v1 v2 v3 v4 v5 v6 v7
  obtain ⟨l0, l1, l2, l3, l4, l5, l6, l7⟩ := (HL.out.gr HG3.out).all
  obtain ⟨v0, v1, v2, v3, v4, v5, v6, v7⟩ := (HV.out.gr HG3.out).all
  go_wp2_with fail
  refine (HOR.out _ HG3.out).mono ?_
  rintro e w4 ⟨s, rfl, hxn, g4⟩
  have HG4 := Lib.hid (HG3.out.trans g4)
  have hx := hxn.xv
  obtain ⟨Ax, cx, hs, -⟩ := XV.gr hx (Gr.refl _)
  subst hs
  obtain ⟨W5, hW5, g5, hq5⟩ := qbox_new w4
  obtain ⟨Q, hQ⟩ : ∃ Q, Q = w4.heap.size := ⟨_, rfl⟩
  have HQW : Hid (W.heap.size ≤ Q) := Lib.hid (by rw [hQ]; exact HG4.out.size)
  have HQ4 : Hid (w4.heap.size ≤ Q) := Lib.hid (by rw [hQ]; exact Nat.le_refl _)
  rw [← hQ] at hq5
  have HP4 := Lib.hid (fun w1 (g : Gr W5 w1) => placesP_any _ O key 4 w1 ((hx.gr g5).gr g) HOP.out HOL.out)
  have HP5 := Lib.hid (fun w1 (g : Gr W5 w1) => placesP_any _ O key 5 w1 ((hx.gr g5).gr g) HOP.out HOL.out)
  have HP6 := Lib.hid (fun w1 (g : Gr W5 w1) => placesP_any _ O key 6 w1 ((hx.gr g5).gr g) HOP.out HOL.out)
  obtain ⟨nx, hnx⟩ : ∃ n, n = O.length := ⟨_, rfl⟩
  rw [← hnx] at HP4 HP5 HP6 ⊢
  have HQ5 := Lib.hid hq5
  have HGW5 := Lib.hid (HG4.out.trans g5)
  have HG45 := Lib.hid g5
  clear g4 hxn hx hnx l0 l1 l2 l3 l4 l5 l6 l7 v0 v1 v2 v3 v4 v5 v6 v7 hq5 g5
  go_upto_region 10 with (fail)
  rw [← hW5, ← hQ]
  clear hW5 hQ
  go_wp2_with fail
  refine (HP4.out _ (Gr.refl _)).mono ?_
  rintro e w6 ⟨A4, c4, rfl, hp4, g6⟩
  have HG6 := Lib.hid g6
  obtain ⟨n4, hn4⟩ : ∃ n, n = (plL key 4 O).length := ⟨_, rfl⟩
  rw [← hn4] at hp4 ⊢
  have HN4 := Lib.hid hn4
  have HR40 := Lib.hid hp4
  clear g6 hn4 hp4
  go_wp2_with fail
  refine (HP5.out _ HG6.out).mono ?_
  rintro e w7 ⟨A5, c5, rfl, hp5, g7⟩
  have HG7 := Lib.hid (HG6.out.trans g7)
  obtain ⟨n5, hn5⟩ : ∃ n, n = (plL key 5 O).length := ⟨_, rfl⟩
  rw [← hn5] at hp5 ⊢
  have HR4 := Lib.hid (HR40.out.gr g7)
  have HR5 := Lib.hid hp5
  have HN5 := Lib.hid hn5
  clear g7 hp5 hn5 HR40
  obtain ⟨D6, hD6⟩ : ∃ D, D = plL key 6 O := ⟨_, rfl⟩
  have HI6 : Hid (InP D6) := Lib.hid (by rw [hD6]; exact plL_in _ _ _)
  have HCP : Hid (D6.length ≤ 600000) := Lib.hid (by rw [hD6]; exact plL_cap HOP.out HOL.out)
  have HE : Hid (rvR 5 start O key = ⟨0, (match D6[D6.length - 1]? with | some x => [elP x] | none => []), false⟩) := Lib.hid (by rw [hD6]; rfl)
  rw [← hD6] at HP6
  clear hD6 HR4 HR5
  go_wp2_with fail
  refine (HP6.out _ HG7.out).mono ?_
  rintro e w70 ⟨A6, c6, rfl, hp6, g70⟩
  have HG70 := Lib.hid (HG7.out.trans g70)
  have HGW := Lib.hid (HG4.out.trans (HG45.out.trans HG70.out))
  obtain ⟨n6, hn6⟩ : ∃ n, n = D6.length := ⟨_, rfl⟩
  rw [← hn6] at hp6 ⊢
  have HN := Lib.hid hn6
  have hnb : n6 ≤ 9223372036854775807 := by have := HCP.out; omega
  have hqb := HQ5.out.gr HG70.out
  have HQB := Lib.hid hqb
  have HP6' := Lib.hid hp6
  clear g70 hp6 hn6
  by_cases h0 : n6 = 0
  · subst h0
    have HD0 : Hid (D6[D6.length - 1]? = none) := Lib.hid (by have := HN.out; exact List.getElem?_eq_none (by omega))
    rw [HD0.out] at HE
    obtain ⟨q0, q1, q2⟩ := hqb.cells
    obtain ⟨qf0, qf1, qf2⟩ := hqb.fz
    have hz2 := gr_obj (HGW.out) HZ.out
    have z0 : w70.cell? ⟨w.heap.size + 1 + 1, 0, none⟩ = some (.int .i64 0) := by rw [cell_of_block hz2]; rfl
    have z1 : w70.cell? ⟨w.heap.size + 1 + 1, 1, none⟩ = some (.slice none 0 0) := by rw [cell_of_block hz2]; rfl
    have z2 : w70.cell? ⟨w.heap.size + 1 + 1, 2, none⟩ = some (.bool false) := by rw [cell_of_block hz2]; rfl
    have zf0 := unfrozen_of_block hz2 0
    have zf1 := unfrozen_of_block hz2 1
    have zf2 := unfrozen_of_block hz2 2
    clear hz2 hqb
    go_wp2_with fail
    rw [HE.out]
    refine bodyPost_ret (v := .tuple #[.agg #[.int .i64 0, .slice none 0 0, .bool false], .int .i64 0]) (by simp [results, Try.results13, go_sem, *]) rfl ⟨_, rfl, SV.nil _, ?_⟩
    show Gr w (((w70.setCell _ _).setCell _ _).setCell _ _)
    exact (((HG.out.trans HGW.out).setCell (by simp only []; omega) _).setCell (by simp only []; omega) _).setCell (by simp only []; omega) _
  obtain ⟨j, hj⟩ : ∃ j, j = n6 - 1 := ⟨_, rfl⟩
  have hj0 : (0 : Int) ≤ (j : Int) := Int.natCast_nonneg _
  have hjn1 : (j : Int) < (n6 : Int) := by omega
  have hn0 : (0 : Int) < (n6 : Int) := by omega
  have hjm : (n6 : Int) - 1 = (j : Int) := by omega
  have hjl : j < D6.length := by rw [← HN.out]; omega
  have HJD : Hid (D6.length - 1 = j) := Lib.hid (by rw [← HN.out]; exact hj.symm)
  obtain ⟨Ar, cr, har, -, -, hat⟩ := HP6'.out.plv
  obtain ⟨b, off, hA, hpc⟩ := hat j hjl
  subst hA
  injection har with e1 e2 e3
  subst e1
  subst e3
  clear e2
  obtain ⟨y, hy⟩ : ∃ y, y = D6[j] := ⟨_, rfl⟩
  rw [← hy] at hpc
  obtain ⟨vy, hvy, hfy⟩ := hpc
  have hyi : y.2 < y.1.ops.length := by rw [hy]; exact HI6.out _ (List.getElem_mem hjl)
  have HYJ : Hid (D6[D6.length - 1]? = some y) := Lib.hid (by rw [hy, HJD.out]; exact List.getElem?_eq_getElem hjl)
  rw [HYJ.out] at HE
  obtain ⟨Ay, cy, hvf⟩ := tov_form hvy
  subst hvf
  obtain ⟨my, hmy⟩ : ∃ m, m = y.1.ops.length := ⟨_, rfl⟩
  rw [← hmy] at hvy hfy
  obtain ⟨yk, hyk⟩ : ∃ a, a = (opAt y.1 y.2).kind := ⟨_, rfl⟩
  obtain ⟨yy, hyy⟩ : ∃ a, a = (opAt y.1 y.2).key := ⟨_, rfl⟩
  obtain ⟨ye, hye⟩ : ∃ a, a = (opAt y.1 y.2).elem := ⟨_, rfl⟩
  obtain ⟨yn, hyn⟩ : ∃ a, a = (opAt y.1 y.2).n := ⟨_, rfl⟩
  have HYE : Hid (elP y = ye) := Lib.hid hye.symm
  have HOY := Lib.hid (fun w1 (g : Gr w70 w1) => pop_any y (.slice Ay my cy) w1 (hvy.gr g) hyi)
  unfold opv at HOY
  rw [← hyk, ← hyy, ← hye, ← hyn] at HOY
  have hfl1 := fun W => run_field_e yk yy ye yn W
  have HE : Hid (rvR 5 start O key = ⟨0, [ye], false⟩) := Lib.hid (by rw [HE.out, ← HYE.out])
  obtain ⟨⟨f0, f1, f2, f3, f4, f5, f6, f7, f8, f9, f10, f11⟩, f12⟩ := hfy
  clear hat hvy hyi hy hyk hyy hye hyn hmy hqb hj h0 hjl
  go_wp2_with fail
  refine (HOY.out _ (Gr.refl _)).mono ?_
  rintro e w8 ⟨rfl, g8⟩
  have HG8 := Lib.hid g8
  have hqb8 := HQB.out.gr g8
  have HQB8 := Lib.hid hqb8
  have HG4Q := Lib.hid (HGW.out.trans g8)
  obtain ⟨W9, hW9, g9, hsv9⟩ := sv_newQ w8 ye
  have hqb9 := hqb8.gr g9
  have HQB9 := Lib.hid hqb9
  have HGW9 := Lib.hid (HG4Q.out.trans g9)
  obtain ⟨q0, q1, q2⟩ := hqb9.cells
  obtain ⟨qf0, qf1, qf2⟩ := hqb9.fz
  have HSV9 := Lib.hid hsv9
  obtain ⟨bs, hbs⟩ : ∃ b, b = w8.heap.size := ⟨_, rfl⟩
  rw [← hbs] at HSV9
  clear g8 g9 hsv9 hqb9 hqb8 f0 f1 f2 f3 f4 f5 f6 f7 f8 f9 f10 f11 f12
  rw [hW9] at q0 q1 q2 qf0 qf1 qf2
  go_upto_region 47 with (fail)
  rw [← hW9, ← hbs]
  clear q0 q1 q2 qf0 qf1 qf2
  clear hW9 hbs
  obtain ⟨W10, hW10⟩ : ∃ X, X = W9.setCell ⟨Q, 1, none⟩ (.slice (some ⟨bs, 0, none⟩) 1 1) := ⟨_, rfl⟩
  have hk10 : Kp (some Q) W9 W10 := by rw [hW10]; exact (Kp.refl (some Q) W9).set (.inr rfl) _ _
  have hqA := HQB9.out.set1 (some ⟨bs, 0, none⟩) 1 1
  rw [← hW10] at hqA
  have HQA := Lib.hid hqA
  have HSVA := Lib.hid (HSV9.out.kq HQB9.out hk10)
  have HGWA : Hid (Gr W W10) := Lib.hid (by rw [hW10]; exact HGW9.out.setCell HQW.out _)
  rw [← hW10]
  clear hW10 hk10
  obtain ⟨q0, q1, q2⟩ := hqA.cells
  obtain ⟨qf0, qf1, qf2⟩ := hqA.fz
  have hz2 := gr_obj (HGWA.out) HZ.out
  have z0 : W10.cell? ⟨w.heap.size + 1 + 1, 0, none⟩ = some (.int .i64 0) := by rw [cell_of_block hz2]; rfl
  have z1 : W10.cell? ⟨w.heap.size + 1 + 1, 1, none⟩ = some (.slice none 0 0) := by rw [cell_of_block hz2]; rfl
  have z2 : W10.cell? ⟨w.heap.size + 1 + 1, 2, none⟩ = some (.bool false) := by rw [cell_of_block hz2]; rfl
  have zf0 := unfrozen_of_block hz2 0
  have zf1 := unfrozen_of_block hz2 1
  have zf2 := unfrozen_of_block hz2 2
  clear hz2 hqA
  go_wp2_with fail
  rw [HE.out]
  refine bodyPost_ret (v := .tuple #[.agg #[.int .i64 0, .slice (some ⟨bs, 0, none⟩) 1 1, .bool false], .int .i64 0]) (by simp [results, Try.results13, go_sem, *]) rfl ⟨_, rfl, ?_, ?_⟩
  · show SV (((W10.setCell _ _).setCell _ _).setCell _ _) _ _
    have hz2 := gr_obj HGWA.out HZ.out
    have hzb : QBox W10 (w.heap.size + 1 + 1) 0 none 0 0 false := hz2
    exact HSVA.out.kq hzb ((((Kp.refl (some (w.heap.size + 1 + 1)) W10).set (.inr rfl) _ _).set (.inr rfl) _ _).set (.inr rfl) _ _)
  · show Gr w (((W10.setCell _ _).setCell _ _).setCell _ _)
    exact (((HG.out.trans HGWA.out).setCell (by simp only []; omega) _).setCell (by simp only []; omega) _).setCell (by simp only []; omega) _
end Go.Proofs.Ytaldgjcbbjjceaa
