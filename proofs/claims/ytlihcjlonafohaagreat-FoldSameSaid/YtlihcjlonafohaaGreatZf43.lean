/- Walks: the document's Value, kind 8. Written by wip/tools/genrv.py. -/
import Derived.Test.YtlihcjlonafohaaGreatZf38
namespace Go.Proofs.YtlihcjlonafohaaGreat
open Go.RowKit Go.Joins
set_option linter.unusedSimpArgs false
set_option linter.unusedVariables false

set_option maxRecDepth 100000 in
set_option maxHeartbeats 8000000 in
theorem rvalK8 (start : Int) (u : Nat → S3) (l : LG) (v : Nat → Nat) (key : ByteArray) (w : World) (h : LV w u l) (hq : FitQ l) (hfc : FitC l) (hok : checkE l = 0) (hcl : closedB l v = true) (hb : wrap64 start = start) :
    Calls Tryz.prog 17 #[.int .i64 8, .int .i64 start, .agg (lcells u), .agg (vcells v), .string key] w fun e w' => RetR (rvR 8 start (ordR l v) key) 0 w e w' := by
  obtain ⟨W, hW, hg, hL, hV, hz⟩ := boxesVa u v w
  have HSW : Hid (w.heap.size + 1 + 1 < W.heap.size) := Lib.hid (by rw [hW]; simp)
  have HL := Lib.hid hL
  have HV := Lib.hid hV
  have HZ := Lib.hid hz
  have HG := Lib.hid hg
  have HBD := Lib.hid hb
  have hl := okL_iff.1 hok
  have HCK := Lib.hid (fun w1 (g : Gr W w1) => rcheck9_any u l w1 ((h.gr hg).gr g) hq)
  have HCL := Lib.hid (fun w1 (g : Gr W w1) => rclosed_any u l v w1 ((h.gr hg).gr g))
  have HOR := Lib.hid (fun w1 (g : Gr W w1) => rord9_any u l v w1 ((h.gr hg).gr g) hfc hl.len)
  rw [hok] at HCK
  rw [hcl] at HCL
  obtain ⟨O, hO⟩ : ∃ O, O = ordR l v := ⟨_, rfl⟩
  have HOP : Hid (∀ t ∈ O, t.ops.length ≤ 8) := Lib.hid (by rw [hO]; exact ok_ops hl)
  have HOL : Hid (O.length ≤ 65536) := Lib.hid (by rw [hO]; exact ok_len hl)
  rw [← hO] at HOR ⊢
  obtain ⟨l0, l1, l2, l3, l4, l5, l6, l7⟩ := hL.all
  clear hL hV hz hg h hq hfc hok hcl hb hl hO
  go_enter Tryz.func17, Tryz.ntmps17
  go_upto_region 1 with (fail)
  rw [← hW]
  clear hW
  go_wp2_with fail
  refine (HCK.out _ (Gr.refl _)).mono ?_
  rintro e w2 ⟨rfl, g2⟩
  have HG2 := Lib.hid g2
  clear g2 l0 l1 l2 l3 l4 l5 l6 l7
  obtain ⟨l0, l1, l2, l3, l4, l5, l6, l7⟩ := (HL.out.gr HG2.out).all
  obtain ⟨v0, v1, v2, v3, v4, v5, v6, v7⟩ := (HV.out.gr HG2.out).all
  go_wp2_with fail
  refine (HCL.out _ HG2.out).mono ?_
  rintro e w3 ⟨rfl, g3⟩
  have HG3 := Lib.hid (HG2.out.trans g3)
  clear g3 l0 l1 l2 l3 l4 l5 l6 l7 v0 v1 v2 v3 v4 v5 v6 v7
  obtain ⟨l0, l1, l2, l3, l4, l5, l6, l7⟩ := (HL.out.gr HG3.out).all
  obtain ⟨v0, v1, v2, v3, v4, v5, v6, v7⟩ := (HV.out.gr HG3.out).all
  go_wp2_with fail
  refine (HOR.out _ HG3.out).mono ?_
  rintro e w4 ⟨s, rfl, hxn, g4⟩
  have HG4 := Lib.hid (HG3.out.trans g4)
  have hx := hxn.xv
  obtain ⟨Ax, cx, hs, -⟩ := XV.gr hx (Gr.refl _)
  subst hs
  obtain ⟨W5, hW5, g5, hq5⟩ := qbox_new w4
  obtain ⟨Q, hQ⟩ : ∃ Q, Q = w4.heap.size := ⟨_, rfl⟩
  have HQW : Hid (W.heap.size ≤ Q) := Lib.hid (by rw [hQ]; exact HG4.out.size)
  have HQ4 : Hid (w4.heap.size ≤ Q) := Lib.hid (by rw [hQ]; exact Nat.le_refl _)
  rw [← hQ] at hq5
  have HP4 := Lib.hid (fun w1 (g : Gr W5 w1) => placesP_any _ O key 4 w1 ((hx.gr g5).gr g) HOP.out HOL.out)
  have HP5 := Lib.hid (fun w1 (g : Gr W5 w1) => placesP_any _ O key 5 w1 ((hx.gr g5).gr g) HOP.out HOL.out)
  obtain ⟨nx, hnx⟩ : ∃ n, n = O.length := ⟨_, rfl⟩
  rw [← hnx] at HP4 HP5 ⊢
  have HQ5 := Lib.hid hq5
  have HGW5 := Lib.hid (HG4.out.trans g5)
  have HG45 := Lib.hid g5
  clear g4 hxn hx hnx l0 l1 l2 l3 l4 l5 l6 l7 v0 v1 v2 v3 v4 v5 v6 v7 hq5 g5
  go_upto_region 10 with (fail)
  rw [← hW5, ← hQ]
  clear hW5 hQ
  go_wp2_with fail
  refine (HP4.out _ (Gr.refl _)).mono ?_
  rintro e w6 ⟨A4, c4, rfl, hp4, g6⟩
  have HG6 := Lib.hid g6
  obtain ⟨n4, hn4⟩ : ∃ n, n = (plL key 4 O).length := ⟨_, rfl⟩
  rw [← hn4] at hp4 ⊢
  have HN4 := Lib.hid hn4
  have HR40 := Lib.hid hp4
  clear g6 hn4 hp4
  go_wp2_with fail
  refine (HP5.out _ HG6.out).mono ?_
  rintro e w7 ⟨A5, c5, rfl, hp5, g7⟩
  have HG7 := Lib.hid (HG6.out.trans g7)
  obtain ⟨n5, hn5⟩ : ∃ n, n = (plL key 5 O).length := ⟨_, rfl⟩
  rw [← hn5] at hp5 ⊢
  have HR4 := Lib.hid (HR40.out.gr g7)
  have HR5 := Lib.hid hp5
  have HN5 := Lib.hid hn5
  clear g7 hp5 hn5 HR40
  obtain ⟨D4, hD4⟩ : ∃ D, D = plL key 4 O := ⟨_, rfl⟩
  obtain ⟨D5, hD5⟩ : ∃ D, D = plL key 5 O := ⟨_, rfl⟩
  have HI4 : Hid (InP D4) := Lib.hid (by rw [hD4]; exact plL_in _ _ _)
  have HI5 : Hid (InP D5) := Lib.hid (by rw [hD5]; exact plL_in _ _ _)
  have HCP : Hid (D4.length ≤ 600000) := Lib.hid (by rw [hD4]; exact plL_cap HOP.out HOL.out)
  have HE : Hid (rvR 8 start O key = ⟨0, foldT (fun x => !ansB x D5) D4 D4.length, false⟩) := Lib.hid (by rw [hD4, hD5]; rfl)
  rw [← hD4] at HR4 HN4
  rw [← hD5] at HR5 HN5
  obtain ⟨P, hPP⟩ : ∃ P, P = fun x => !ansB x D5 := ⟨_, rfl⟩
  rw [← hPP] at HE
  have HPP : Hid (P = fun x => !ansB x D5) := Lib.hid hPP
  have HN := HN4
  have HST : Hid (ST w4 Q (.slice A4 n4 c4) D4 (.slice A5 n5 c5) D5 [] false w7) := Lib.hid ⟨⟨none, 0, 0, HQ5.out.gr HG7.out, SV.nil _⟩, HR4.out, HR5.out, HG45.out.trans HG7.out⟩
  have hnb : n4 ≤ 9223372036854775807 := by have := HCP.out; have := HN.out; omega
  clear hPP hD4 hD5 HR4 HR5
  go_wp2_with fail
  go_loopw [17] (fun i wr => ∃ j : Nat, j ≤ n4 ∧ i = .int .i64 j ∧ Hid (ST w4 Q (.slice A4 n4 c4) D4 (.slice A5 n5 c5) D5 (foldT P D4 j) false wr)) (fun i _ => n4 - (intOf i).toNat)
  case atStart => exact ⟨0, Nat.zero_le _, rfl, HST⟩
  case round =>
    obtain ⟨j, hj, rfl, hst⟩ := hrel
    rename World => wr
    by_cases hjn : j < n4
    case neg =>
      obtain rfl : j = n4 := by omega
      obtain ⟨Aq, mq, cq, hqb, hsv⟩ := hst.out.ex
      have HSV := Lib.hid hsv
      have HGW := Lib.hid (HG4.out.trans hst.out.gr)
      obtain ⟨q0, q1, q2⟩ := hqb.cells
      obtain ⟨qf0, qf1, qf2⟩ := hqb.fz
      have hz2 := gr_obj (HGW.out) HZ.out
      have z0 : wr.cell? ⟨w.heap.size + 1 + 1, 0, none⟩ = some (.int .i64 0) := by rw [cell_of_block hz2]; rfl
      have z1 : wr.cell? ⟨w.heap.size + 1 + 1, 1, none⟩ = some (.slice none 0 0) := by rw [cell_of_block hz2]; rfl
      have z2 : wr.cell? ⟨w.heap.size + 1 + 1, 2, none⟩ = some (.bool false) := by rw [cell_of_block hz2]; rfl
      have zf0 := unfrozen_of_block hz2 0
      have zf1 := unfrozen_of_block hz2 1
      have zf2 := unfrozen_of_block hz2 2
      clear hz2 hqb hsv hst
      go_wp2_with fail
      rw [HE.out]
      refine bodyPost_ret (v := .tuple #[.agg #[.int .i64 0, .slice Aq mq cq, .bool false], .int .i64 0]) (by simp [results, Tryz.results17, go_sem, *]) rfl ⟨_, rfl, ?_, ?_⟩
      · show SV (((wr.setCell _ _).setCell _ _).setCell _ _) _ _
        have hz2 := gr_obj HGW.out HZ.out
        have hzb : QBox wr (w.heap.size + 1 + 1) 0 none 0 0 false := hz2
        rw [← HN.out]
        exact HSV.out.kq hzb ((((Kp.refl (some (w.heap.size + 1 + 1)) wr).set (.inr rfl) _ _).set (.inr rfl) _ _).set (.inr rfl) _ _)
      · show Gr w (((wr.setCell _ _).setCell _ _).setCell _ _)
        exact (((HG.out.trans HGW.out).setCell (by simp only []; omega) _).setCell (by simp only []; omega) _).setCell (by simp only []; omega) _
    case pos =>
    have hj0 : (0 : Int) ≤ (j : Int) := Int.natCast_nonneg _
    have hjn1 : (j : Int) < (n4 : Int) := by omega
    have hjl : j < D4.length := by rw [← HN.out]; exact hjn
    obtain ⟨Aq, mq, cq, hqb, hsv⟩ := hst.out.ex
    obtain ⟨Ar, cr, har, -, -, hat⟩ := hst.out.p4.plv
    obtain ⟨b, off, hA, hpc⟩ := hat j hjl
    subst hA
    injection har with e1 e2 e3
    subst e1
    subst e3
    clear e2
    obtain ⟨y, hy⟩ : ∃ y, y = D4[j] := ⟨_, rfl⟩
    rw [← hy] at hpc
    obtain ⟨vy, hvy, hfy⟩ := hpc
    have hyi : y.2 < y.1.ops.length := by rw [hy]; exact HI4.out _ (List.getElem_mem hjl)
    have HYJ : Hid (D4[j]? = some y) := Lib.hid (by rw [hy]; exact List.getElem?_eq_getElem hjl)
    obtain ⟨Ay, cy, hvf⟩ := tov_form hvy
    subst hvf
    obtain ⟨my, hmy⟩ : ∃ m, m = y.1.ops.length := ⟨_, rfl⟩
    rw [← hmy] at hvy hfy
    obtain ⟨yk, hyk⟩ : ∃ a, a = (opAt y.1 y.2).kind := ⟨_, rfl⟩
    obtain ⟨yy, hyy⟩ : ∃ a, a = (opAt y.1 y.2).key := ⟨_, rfl⟩
    obtain ⟨ye, hye⟩ : ∃ a, a = (opAt y.1 y.2).elem := ⟨_, rfl⟩
    obtain ⟨yn, hyn⟩ : ∃ a, a = (opAt y.1 y.2).n := ⟨_, rfl⟩
    have HYE : Hid (elP y = ye) := Lib.hid hye.symm
    have HOY := Lib.hid (fun w1 (g : Gr wr w1) => pop_any y (.slice Ay my cy) w1 (hvy.gr g) hyi)
    unfold opv at HOY
    rw [← hyk, ← hyy, ← hye, ← hyn] at HOY
    have hfl1 := fun W => run_field_e yk yy ye yn W
    obtain ⟨E, hE⟩ : ∃ E, E = foldT P D4 j := ⟨_, rfl⟩
    rw [← hE] at hsv
    have HELq : Hid (E.length ≤ 1000000) := Lib.hid (by have := foldT_len P D4 j; have := HCP.out; rw [hE]; omega)
    have HFY0 := Lib.hid hfy
    have HQB0 := Lib.hid hqb
    have HSV0 := Lib.hid hsv
    have HST0 : Hid (ST w4 Q (.slice (some ⟨b, off, none⟩) n4 c4) D4 (.slice A5 n5 c5) D5 E false wr) := Lib.hid (by rw [hE]; exact hst.out)
    have HEE := Lib.hid hE
    obtain ⟨⟨f0, f1, f2, f3, f4, f5, f6, f7, f8, f9, f10, f11⟩, f12⟩ := hfy
    have HAN := Lib.hid (fun w1 (g : Gr wr w1) => answered_any y (.slice Ay my cy) _ D5 w1 (hvy.gr g) hyi ((hst.out.p5.plv).gr g) HI5.out)
    obtain ⟨q, hq⟩ : ∃ q, q = ansB y D5 := ⟨_, rfl⟩
    rw [← hq] at HAN
    have HQQ : Hid (P y = !q) := Lib.hid (by rw [HPP.out, hq])
    clear hst hat hvy hyi hy hyk hyy hye hyn hmy hq hqb hsv hE
    go_wp2_with fail
    refine (HAN.out _ (Gr.refl _)).mono ?_
    rintro e w8 ⟨rfl, g8⟩
    clear f0 f1 f2 f3 f4 f5 f6 f7 f8 f9 f10 f11 f12
    have HST8 := Lib.hid (HST0.out.grow g8)
    have HQB := Lib.hid (HQB0.out.gr g8)
    have HSV := Lib.hid (HSV0.out.gr g8)
    have HFY := Lib.hid (HFY0.out.gr g8)
    have HEL := HELq
    have HOY := Lib.hid (fun w1 (g : Gr w8 w1) => HOY.out w1 (g8.trans g))
    clear g8
    cases q
    case true =>
      have HNX : Hid (foldT P D4 (j + 1) = E) := Lib.hid (by rw [foldT_no HYJ.out HQQ.out, HEE.out])
      go_wp2_with fail
      go_roundw
      case measure => simp [intOf]; omega
      case rel => exact ⟨j + 1, by omega, by go_num, by rw [HNX.out]; exact HST8⟩
    case false =>
      have HNX : Hid (foldT P D4 (j + 1) = intoT ye E) := Lib.hid (by rw [foldT_yes HYJ.out HQQ.out, HEE.out, HYE.out])
      go_upto_region 21 with (fail)
      refine wp_region_noPanic ?_
      refine iRegionA (RL w8 10 (fun k => ((SgA Q b off n4 c4 j mq cq Aq y (.slice Ay my cy) yk yn yy ye E) k).P) (ST w4 Q (.slice (some ⟨b, off, none⟩) n4 c4) D4 (.slice A5 n5 c5) D5 (intoT ye E) false) [(0, 1), (2, 4), (3, 4), (4, 5), (5, 6), (6, 7), (1, 8), (7, 8), (9, 10), (8, 10)]) (by kernel_rfl) (by kernel_rfl) (rl_start (fun k yz wA wB => ((SgA Q b off n4 c4 j mq cq Aq y (.slice Ay my cy) yk yn yy ye E) k).st yz wA wB) (Gr.refl _)) ?_ ?_
      · intro i o ho vals wc A hI hn hdep hOld hNew
        have hi : i < 11 := (List.getElem?_eq_some_iff.1 ho).1
        have eo14 : A.tmps[14]?.getD undef = .pointer (some ⟨Q, 0, none⟩) := slotE (hOld 14 (by kernel_rfl))
        have eo15 : A.tmps[15]?.getD undef = .slice (some ⟨b, off, none⟩) n4 c4 := slotE (hOld 15 (by kernel_rfl))
        have eo17 : A.tmps[17]?.getD undef = .int .i64 (j : Int) := slotE (hOld 17 (by kernel_rfl))
        obtain rfl | rfl | rfl | rfl | rfl | rfl | rfl | rfl | rfl | rfl | rfl : i = 0 ∨ i = 1 ∨ i = 2 ∨ i = 3 ∨ i = 4 ∨ i = 5 ∨ i = 6 ∨ i = 7 ∨ i = 8 ∨ i = 9 ∨ i = 10 := by omega
        · obtain rfl := Option.some.inj (show some _ = some o from ho)
          have hN : vals 10 = none := (hI.edge (i := 8) (j := 10) (by decide) (hI.edge (i := 1) (j := 8) (by decide) (hI.edge (i := 0) (j := 1) (by decide) hn)))
          have hgc := hI.gr hN
          have hst9 := HST8.out.grow hgc
          have hqb9 := HQB.out.gr hgc
          obtain ⟨q0, q1, q2⟩ := hqb9.cells
          obtain ⟨qf0, qf1, qf2⟩ := hqb9.fz
          obtain ⟨⟨f0, f1, f2, f3, f4, f5, f6, f7, f8, f9, f10, f11⟩, f12⟩ := HFY.out.gr hgc
          have hsv9 := HSV.out.gr hgc
          refine aVal rfl rfl (v := .pointer (some ⟨Q, 1, none⟩)) (w' := wc) ?_ ⟨_, rfl, hI.val hN (by decide) (by simp) (Gr.refl _) (rfl)⟩
          clear hI
          go_simp
        · obtain rfl := Option.some.inj (show some _ = some o from ho)
          have hN : vals 10 = none := (hI.edge (i := 8) (j := 10) (by decide) (hI.edge (i := 1) (j := 8) (by decide) hn))
          have hgc := hI.gr hN
          have hst9 := HST8.out.grow hgc
          have hqb9 := HQB.out.gr hgc
          obtain ⟨q0, q1, q2⟩ := hqb9.cells
          obtain ⟨qf0, qf1, qf2⟩ := hqb9.fz
          obtain ⟨⟨f0, f1, f2, f3, f4, f5, f6, f7, f8, f9, f10, f11⟩, f12⟩ := HFY.out.gr hgc
          have hsv9 := HSV.out.gr hgc
          obtain ⟨y0, hy0⟩ := hdep ⟨0, .data⟩ (by simp) rfl
          obtain rfl : y0 = .pointer (some ⟨Q, 1, none⟩) := hI.ok hN hy0
          have s0 := slotE (hNew 0 78 _ _ rfl rfl (by kernel_rfl) hy0)
          refine aVal rfl rfl (v := .slice Aq mq cq) (w' := wc) ?_ ⟨_, rfl, hI.val hN (by decide) (by simp [hy0]) (Gr.refl _) (rfl)⟩
          clear hI
          go_simp
        · obtain rfl := Option.some.inj (show some _ = some o from ho)
          have hN : vals 10 = none := (hI.edge (i := 8) (j := 10) (by decide) (hI.edge (i := 7) (j := 8) (by decide) (hI.edge (i := 6) (j := 7) (by decide) (hI.edge (i := 5) (j := 6) (by decide) (hI.edge (i := 4) (j := 5) (by decide) (hI.edge (i := 2) (j := 4) (by decide) hn))))))
          have hgc := hI.gr hN
          have hst9 := HST8.out.grow hgc
          have hqb9 := HQB.out.gr hgc
          obtain ⟨q0, q1, q2⟩ := hqb9.cells
          obtain ⟨qf0, qf1, qf2⟩ := hqb9.fz
          obtain ⟨⟨f0, f1, f2, f3, f4, f5, f6, f7, f8, f9, f10, f11⟩, f12⟩ := HFY.out.gr hgc
          have hsv9 := HSV.out.gr hgc
          refine aVal rfl rfl (v := .slice (some ⟨b, off, none⟩) n4 c4) (w' := wc) ?_ ⟨_, rfl, hI.val hN (by decide) (by simp) (Gr.refl _) (rfl)⟩
          clear hI
          go_simp
        · obtain rfl := Option.some.inj (show some _ = some o from ho)
          have hN : vals 10 = none := (hI.edge (i := 8) (j := 10) (by decide) (hI.edge (i := 7) (j := 8) (by decide) (hI.edge (i := 6) (j := 7) (by decide) (hI.edge (i := 5) (j := 6) (by decide) (hI.edge (i := 4) (j := 5) (by decide) (hI.edge (i := 3) (j := 4) (by decide) hn))))))
          have hgc := hI.gr hN
          have hst9 := HST8.out.grow hgc
          have hqb9 := HQB.out.gr hgc
          obtain ⟨q0, q1, q2⟩ := hqb9.cells
          obtain ⟨qf0, qf1, qf2⟩ := hqb9.fz
          obtain ⟨⟨f0, f1, f2, f3, f4, f5, f6, f7, f8, f9, f10, f11⟩, f12⟩ := HFY.out.gr hgc
          have hsv9 := HSV.out.gr hgc
          refine aVal rfl rfl (v := .int .i64 (j : Int)) (w' := wc) ?_ ⟨_, rfl, hI.val hN (by decide) (by simp) (Gr.refl _) (rfl)⟩
          clear hI
          go_simp
        · obtain rfl := Option.some.inj (show some _ = some o from ho)
          have hN : vals 10 = none := (hI.edge (i := 8) (j := 10) (by decide) (hI.edge (i := 7) (j := 8) (by decide) (hI.edge (i := 6) (j := 7) (by decide) (hI.edge (i := 5) (j := 6) (by decide) (hI.edge (i := 4) (j := 5) (by decide) hn)))))
          have hgc := hI.gr hN
          have hst9 := HST8.out.grow hgc
          have hqb9 := HQB.out.gr hgc
          obtain ⟨q0, q1, q2⟩ := hqb9.cells
          obtain ⟨qf0, qf1, qf2⟩ := hqb9.fz
          obtain ⟨⟨f0, f1, f2, f3, f4, f5, f6, f7, f8, f9, f10, f11⟩, f12⟩ := HFY.out.gr hgc
          have hsv9 := HSV.out.gr hgc
          obtain ⟨y2, hy2⟩ := hdep ⟨2, .data⟩ (by simp) rfl
          obtain rfl : y2 = .slice (some ⟨b, off, none⟩) n4 c4 := hI.ok hN hy2
          have s2 := slotE (hNew 2 80 _ _ rfl rfl (by kernel_rfl) hy2)
          obtain ⟨y3, hy3⟩ := hdep ⟨3, .data⟩ (by simp) rfl
          obtain rfl : y3 = .int .i64 (j : Int) := hI.ok hN hy3
          have s3 := slotE (hNew 3 81 _ _ rfl rfl (by kernel_rfl) hy3)
          refine aVal rfl rfl (v := .pointer (some ⟨b, off + j * 13, none⟩)) (w' := wc) ?_ ⟨_, rfl, hI.val hN (by decide) (by simp [hy2, hy3]) (Gr.refl _) (rfl)⟩
          clear hI
          go_simp
        · obtain rfl := Option.some.inj (show some _ = some o from ho)
          have hN : vals 10 = none := (hI.edge (i := 8) (j := 10) (by decide) (hI.edge (i := 7) (j := 8) (by decide) (hI.edge (i := 6) (j := 7) (by decide) (hI.edge (i := 5) (j := 6) (by decide) hn))))
          have hgc := hI.gr hN
          have hst9 := HST8.out.grow hgc
          have hqb9 := HQB.out.gr hgc
          obtain ⟨q0, q1, q2⟩ := hqb9.cells
          obtain ⟨qf0, qf1, qf2⟩ := hqb9.fz
          obtain ⟨⟨f0, f1, f2, f3, f4, f5, f6, f7, f8, f9, f10, f11⟩, f12⟩ := HFY.out.gr hgc
          have hsv9 := HSV.out.gr hgc
          obtain ⟨y4, hy4⟩ := hdep ⟨4, .data⟩ (by simp) rfl
          obtain rfl : y4 = .pointer (some ⟨b, off + j * 13, none⟩) := hI.ok hN hy4
          have s4 := slotE (hNew 4 82 _ _ rfl rfl (by kernel_rfl) hy4)
          refine aVal rfl rfl (v := .agg (pcs y.1 (.slice Ay my cy) y.2)) (w' := wc) ?_ ⟨_, rfl, hI.val hN (by decide) (by simp [hy4]) (Gr.refl _) (rfl)⟩
          clear hI
          go_simp
        · obtain rfl := Option.some.inj (show some _ = some o from ho)
          have hN : vals 10 = none := (hI.edge (i := 8) (j := 10) (by decide) (hI.edge (i := 7) (j := 8) (by decide) (hI.edge (i := 6) (j := 7) (by decide) hn)))
          have hgc := hI.gr hN
          have hst9 := HST8.out.grow hgc
          have hqb9 := HQB.out.gr hgc
          obtain ⟨q0, q1, q2⟩ := hqb9.cells
          obtain ⟨qf0, qf1, qf2⟩ := hqb9.fz
          obtain ⟨⟨f0, f1, f2, f3, f4, f5, f6, f7, f8, f9, f10, f11⟩, f12⟩ := HFY.out.gr hgc
          have hsv9 := HSV.out.gr hgc
          obtain ⟨y5, hy5⟩ := hdep ⟨5, .data⟩ (by simp) rfl
          obtain rfl : y5 = .agg (pcs y.1 (.slice Ay my cy) y.2) := hI.ok hN hy5
          have s5 := slotE (hNew 5 83 _ _ rfl rfl (by kernel_rfl) hy5)
          refine aCall rfl rfl (w1 := wc) ?_ ((HOY.out wc hgc).mono fun e w' ⟨he, hg⟩ => ⟨_, he, _, rfl, hI.val hN (by decide) (by simp [hy5]) hg (rfl)⟩)
          clear hI
          go_simp
        · obtain rfl := Option.some.inj (show some _ = some o from ho)
          have hN : vals 10 = none := (hI.edge (i := 8) (j := 10) (by decide) (hI.edge (i := 7) (j := 8) (by decide) hn))
          have hgc := hI.gr hN
          have hst9 := HST8.out.grow hgc
          have hqb9 := HQB.out.gr hgc
          obtain ⟨q0, q1, q2⟩ := hqb9.cells
          obtain ⟨qf0, qf1, qf2⟩ := hqb9.fz
          obtain ⟨⟨f0, f1, f2, f3, f4, f5, f6, f7, f8, f9, f10, f11⟩, f12⟩ := HFY.out.gr hgc
          have hsv9 := HSV.out.gr hgc
          obtain ⟨y6, hy6⟩ := hdep ⟨6, .data⟩ (by simp) rfl
          obtain rfl : y6 = .agg #[.int .i64 yk, .string yy, .string ye, .int .i64 yn] := hI.ok hN hy6
          have s6 := slotE (hNew 6 84 _ _ rfl rfl (by kernel_rfl) hy6)
          refine aVal rfl rfl (v := .string ye) (w' := wc) ?_ ⟨_, rfl, hI.val hN (by decide) (by simp [hy6]) (Gr.refl _) (rfl)⟩
          clear hI
          go_simp
        · obtain rfl := Option.some.inj (show some _ = some o from ho)
          have hN : vals 10 = none := (hI.edge (i := 8) (j := 10) (by decide) hn)
          have hgc := hI.gr hN
          have hst9 := HST8.out.grow hgc
          have hqb9 := HQB.out.gr hgc
          obtain ⟨q0, q1, q2⟩ := hqb9.cells
          obtain ⟨qf0, qf1, qf2⟩ := hqb9.fz
          obtain ⟨⟨f0, f1, f2, f3, f4, f5, f6, f7, f8, f9, f10, f11⟩, f12⟩ := HFY.out.gr hgc
          have hsv9 := HSV.out.gr hgc
          obtain ⟨y1, hy1⟩ := hdep ⟨1, .data⟩ (by simp) rfl
          obtain rfl : y1 = .slice Aq mq cq := hI.ok hN hy1
          have s1 := slotE (hNew 1 79 _ _ rfl rfl (by kernel_rfl) hy1)
          obtain ⟨y7, hy7⟩ := hdep ⟨7, .data⟩ (by simp) rfl
          obtain rfl : y7 = .string ye := hI.ok hN hy7
          have s7 := slotE (hNew 7 85 _ _ rfl rfl (by kernel_rfl) hy7)
          refine aCall rfl rfl (w1 := wc) ?_ ((rinto_any _ E ye wc hsv9 HEL.out).mono fun e w' ⟨v', he, hsv, hg⟩ => ⟨_, he, _, rfl, hI.val hN (by decide) (by simp [hy1, hy7]) hg ((by obtain ⟨A, c, hv⟩ := sv_form hsv; subst hv; exact ⟨A, c, rfl, hsv⟩))⟩)
          clear hI
          go_simp
        · obtain rfl := Option.some.inj (show some _ = some o from ho)
          have hN : vals 10 = none := (hI.edge (i := 9) (j := 10) (by decide) hn)
          have hgc := hI.gr hN
          have hst9 := HST8.out.grow hgc
          have hqb9 := HQB.out.gr hgc
          obtain ⟨q0, q1, q2⟩ := hqb9.cells
          obtain ⟨qf0, qf1, qf2⟩ := hqb9.fz
          obtain ⟨⟨f0, f1, f2, f3, f4, f5, f6, f7, f8, f9, f10, f11⟩, f12⟩ := HFY.out.gr hgc
          have hsv9 := HSV.out.gr hgc
          refine aVal rfl rfl (v := .pointer (some ⟨Q, 1, none⟩)) (w' := wc) ?_ ⟨_, rfl, hI.val hN (by decide) (by simp) (Gr.refl _) (rfl)⟩
          clear hI
          go_simp
        · obtain rfl := Option.some.inj (show some _ = some o from ho)
          have hN : vals 10 = none := hn
          have hgc := hI.gr hN
          have hst9 := HST8.out.grow hgc
          have hqb9 := HQB.out.gr hgc
          obtain ⟨q0, q1, q2⟩ := hqb9.cells
          obtain ⟨qf0, qf1, qf2⟩ := hqb9.fz
          obtain ⟨⟨f0, f1, f2, f3, f4, f5, f6, f7, f8, f9, f10, f11⟩, f12⟩ := HFY.out.gr hgc
          have hsv9 := HSV.out.gr hgc
          obtain ⟨y9, hy9⟩ := hdep ⟨9, .data⟩ (by simp) rfl
          obtain rfl : y9 = .pointer (some ⟨Q, 1, none⟩) := hI.ok hN hy9
          have s9 := slotE (hNew 9 87 _ _ rfl rfl (by kernel_rfl) hy9)
          obtain ⟨y8, hy8⟩ := hdep ⟨8, .data⟩ (by simp) rfl
          obtain ⟨A8, c8, rfl, hl8⟩ : ∃ A c, y8 = .slice A ((intoT ye E).length) c ∧ SV wc (.slice A ((intoT ye E).length) c) (intoT ye E) := hI.ok hN hy8
          have s8 := slotE (hNew 8 86 _ _ rfl rfl (by kernel_rfl) hy8)
          refine aSkip rfl rfl (w' := wc.setCell ⟨Q, 1, none⟩ (.slice A8 (intoT ye E).length c8)) ?_ ⟨_, rfl, hI.last (by simp [hy9, hy8]) (hst9.put HQ4.out hl8)⟩
          clear hI
          go_simp
          try rfl
      · intro vals wc hall hI
        refine NoPanic.normal ?_
        obtain ⟨y0, hy0⟩ := hall 0 (by decide)
        obtain ⟨y1, hy1⟩ := hall 1 (by decide)
        obtain ⟨y2, hy2⟩ := hall 2 (by decide)
        obtain ⟨y3, hy3⟩ := hall 3 (by decide)
        obtain ⟨y4, hy4⟩ := hall 4 (by decide)
        obtain ⟨y5, hy5⟩ := hall 5 (by decide)
        obtain ⟨y6, hy6⟩ := hall 6 (by decide)
        obtain ⟨y7, hy7⟩ := hall 7 (by decide)
        obtain ⟨y8, hy8⟩ := hall 8 (by decide)
        obtain ⟨y9, hy9⟩ := hall 9 (by decide)
        obtain ⟨y10, hy10⟩ := hall 10 (by decide)
        have hFin := hI.fin (by rw [hy10]; simp)

        simp only [putAll, putV, hy0, hy1, hy2, hy3, hy4, hy5, hy6, hy7, hy8, hy9, hy10]
        clear hI hall hy0 hy1 hy2 hy3 hy4 hy5 hy6 hy7 hy8 hy9 hy10
        simp only [Act.put, List.setIfInBounds_toArray, List.set_cons_zero, List.set_cons_succ]
        have HFN := Lib.hid hFin
        clear hFin
        go_wp2_with fail
        go_roundw
        case measure => simp [intOf]; omega
        case rel => exact ⟨j + 1, by omega, by go_num, by rw [HNX.out]; exact HFN⟩
end Go.Proofs.YtlihcjlonafohaaGreat
