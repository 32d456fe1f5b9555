/- Walks: the document's Value, kind 7. Written by wip/tools/genrv.py. -/
import Derived.Test.YtlihcjlonafohaaGreatZf38
namespace Go.Proofs.YtlihcjlonafohaaGreat
open Go.RowKit Go.Joins
set_option linter.unusedSimpArgs false
set_option linter.unusedVariables false

set_option maxRecDepth 100000 in
set_option maxHeartbeats 8000000 in
theorem rvalK7 (start : Int) (u : Nat → S3) (l : LG) (v : Nat → Nat) (key : ByteArray) (w : World) (h : LV w u l) (hq : FitQ l) (hfc : FitC l) (hok : checkE l = 0) (hcl : closedB l v = true) (hb : wrap64 start = start) :
    Calls Tryz.prog 17 #[.int .i64 7, .int .i64 start, .agg (lcells u), .agg (vcells v), .string key] w fun e w' => RetR (rvR 7 start (ordR l v) key) 0 w e w' := by
  obtain ⟨W, hW, hg, hL, hV, hz⟩ := boxesVa u v w
  have HSW : Hid (w.heap.size + 1 + 1 < W.heap.size) := Lib.hid (by rw [hW]; simp)
  have HL := Lib.hid hL
  have HV := Lib.hid hV
  have HZ := Lib.hid hz
  have HG := Lib.hid hg
  have HBD := Lib.hid hb
  have hl := okL_iff.1 hok
  have HCK := Lib.hid (fun w1 (g : Gr W w1) => rcheck9_any u l w1 ((h.gr hg).gr g) hq)
  have HCL := Lib.hid (fun w1 (g : Gr W w1) => rclosed_any u l v w1 ((h.gr hg).gr g))
  have HOR := Lib.hid (fun w1 (g : Gr W w1) => rord9_any u l v w1 ((h.gr hg).gr g) hfc hl.len)
  rw [hok] at HCK
  rw [hcl] at HCL
  obtain ⟨O, hO⟩ : ∃ O, O = ordR l v := ⟨_, rfl⟩
  have HOP : Hid (∀ t ∈ O, t.ops.length ≤ 8) := Lib.hid (by rw [hO]; exact ok_ops hl)
  have HOL : Hid (O.length ≤ 65536) := Lib.hid (by rw [hO]; exact ok_len hl)
  rw [← hO] at HOR ⊢
  obtain ⟨l0, l1, l2, l3, l4, l5, l6, l7⟩ := hL.all
  clear hL hV hz hg h hq hfc hok hcl hb hl hO
  go_enter Tryz.func17, Tryz.ntmps17
  go_upto_region 1 with (fail)
  rw [← hW]
  clear hW
  go_wp2_with fail
  refine (HCK.out _ (Gr.refl _)).mono ?_
  rintro e w2 ⟨rfl, g2⟩
  have HG2 := Lib.hid g2
  clear g2 l0 l1 l2 l3 l4 l5 l6 l7
  obtain ⟨l0, l1, l2, l3, l4, l5, l6, l7⟩ := (HL.out.gr HG2.out).all
  obtain ⟨v0, v1, v2, v3, v4, v5, v6, v7⟩ := (HV.out.gr HG2.out).all
  go_wp2_with fail
  refine (HCL.out _ HG2.out).mono ?_
  rintro e w3 ⟨rfl, g3⟩
  have HG3 := Lib.hid (HG2.out.trans g3)
  clear g3 l0 l1 l2 l3 l4 l5 l6 l7 v0 v1 v2 v3 v4 v5 v6 v7
  obtain ⟨l0, l1, l2, l3, l4, l5, l6, l7⟩ := (HL.out.gr HG3.out).all
  obtain ⟨v0, v1, v2, v3, v4, v5, v6, v7⟩ := (HV.out.gr HG3.out).all
  go_wp2_with fail
  refine (HOR.out _ HG3.out).mono ?_
  rintro e w4 ⟨s, rfl, hxn, g4⟩
  have HG4 := Lib.hid (HG3.out.trans g4)
  have hx := hxn.xv
  obtain ⟨Ax, cx, hs, -⟩ := XV.gr hx (Gr.refl _)
  subst hs
  obtain ⟨W5, hW5, g5, hq5⟩ := qbox_new w4
  obtain ⟨Q, hQ⟩ : ∃ Q, Q = w4.heap.size := ⟨_, rfl⟩
  have HQW : Hid (W.heap.size ≤ Q) := Lib.hid (by rw [hQ]; exact HG4.out.size)
  have HQ4 : Hid (w4.heap.size ≤ Q) := Lib.hid (by rw [hQ]; exact Nat.le_refl _)
  rw [← hQ] at hq5
  have HP4 := Lib.hid (fun w1 (g : Gr W5 w1) => placesP_any _ O key 4 w1 ((hx.gr g5).gr g) HOP.out HOL.out)
  have HP5 := Lib.hid (fun w1 (g : Gr W5 w1) => placesP_any _ O key 5 w1 ((hx.gr g5).gr g) HOP.out HOL.out)
  have HP7 := Lib.hid (fun w1 (g : Gr W5 w1) => placesP_any _ O key 7 w1 ((hx.gr g5).gr g) HOP.out HOL.out)
  have HP8 := Lib.hid (fun w1 (g : Gr W5 w1) => placesP_any _ O key 8 w1 ((hx.gr g5).gr g) HOP.out HOL.out)
  obtain ⟨nx, hnx⟩ : ∃ n, n = O.length := ⟨_, rfl⟩
  rw [← hnx] at HP4 HP5 HP7 HP8 ⊢
  have HQ5 := Lib.hid hq5
  have HGW5 := Lib.hid (HG4.out.trans g5)
  have HG45 := Lib.hid g5
  clear g4 hxn hx hnx l0 l1 l2 l3 l4 l5 l6 l7 v0 v1 v2 v3 v4 v5 v6 v7 hq5 g5
  go_upto_region 10 with (fail)
  rw [← hW5, ← hQ]
  clear hW5 hQ
  go_wp2_with fail
  refine (HP4.out _ (Gr.refl _)).mono ?_
  rintro e w6 ⟨A4, c4, rfl, hp4, g6⟩
  have HG6 := Lib.hid g6
  obtain ⟨n4, hn4⟩ : ∃ n, n = (plL key 4 O).length := ⟨_, rfl⟩
  rw [← hn4] at hp4 ⊢
  have HN4 := Lib.hid hn4
  have HR40 := Lib.hid hp4
  clear g6 hn4 hp4
  go_wp2_with fail
  refine (HP5.out _ HG6.out).mono ?_
  rintro e w7 ⟨A5, c5, rfl, hp5, g7⟩
  have HG7 := Lib.hid (HG6.out.trans g7)
  obtain ⟨n5, hn5⟩ : ∃ n, n = (plL key 5 O).length := ⟨_, rfl⟩
  rw [← hn5] at hp5 ⊢
  have HR4 := Lib.hid (HR40.out.gr g7)
  have HR5 := Lib.hid hp5
  have HN5 := Lib.hid hn5
  clear g7 hp5 hn5 HR40
  obtain ⟨D7, hD7⟩ : ∃ D, D = plL key 7 O := ⟨_, rfl⟩
  obtain ⟨D8, hD8⟩ : ∃ D, D = plL key 8 O := ⟨_, rfl⟩
  have HI7 : Hid (InP D7) := Lib.hid (by rw [hD7]; exact plL_in _ _ _)
  have HI8 : Hid (InP D8) := Lib.hid (by rw [hD8]; exact plL_in _ _ _)
  have HCP : Hid (D7.length ≤ 600000) := Lib.hid (by rw [hD7]; exact plL_cap HOP.out HOL.out)
  have HE : Hid (rvR 7 start O key = ⟨0, [], (!decide (start = 0) && decide (D8.length = 0)) || D7.any (fun x => !ansB x D8)⟩) := Lib.hid (by rw [hD7, hD8]; rfl)
  rw [← hD7] at HP7
  rw [← hD8] at HP8
  clear hD7 hD8 HR4 HR5
  go_wp2_with fail
  refine (HP7.out _ HG7.out).mono ?_
  rintro e w71 ⟨A7, c7, rfl, hp7, g71⟩
  have HG71 := Lib.hid (HG7.out.trans g71)
  obtain ⟨n7, hn7⟩ : ∃ n, n = D7.length := ⟨_, rfl⟩
  rw [← hn7] at hp7 ⊢
  have HN := Lib.hid hn7
  have HP7' := Lib.hid hp7
  have hnb : n7 ≤ 9223372036854775807 := by have := HCP.out; omega
  clear g71 hp7 hn7
  go_wp2_with fail
  refine (HP8.out _ HG71.out).mono ?_
  rintro e w72 ⟨A8, c8, rfl, hp8, g72⟩
  have HG72 := Lib.hid (HG71.out.trans g72)
  obtain ⟨n8, hn8⟩ : ∃ n, n = D8.length := ⟨_, rfl⟩
  rw [← hn8] at hp8 HE ⊢
  have HST : Hid (ST w4 Q (.slice A7 n7 c7) D7 (.slice A8 n8 c8) D8 [] false w72) := Lib.hid ⟨⟨none, 0, 0, HQ5.out.gr HG72.out, SV.nil _⟩, HP7'.out.gr g72, hp8, HG45.out.trans HG72.out⟩
  have hqb := HQ5.out.gr HG72.out
  clear g72 hp8 hn8
  obtain ⟨q0, q1, q2⟩ := hqb.cells
  obtain ⟨qf0, qf1, qf2⟩ := hqb.fz
  clear hqb
  obtain ⟨P, hPP⟩ : ∃ P, P = fun x => !ansB x D8 := ⟨_, rfl⟩
  rw [← hPP] at HE
  have HPP : Hid (P = fun x => !ansB x D8) := Lib.hid hPP
  clear hPP
  obtain ⟨b0, hb0⟩ : ∃ b, b = (!decide (start = 0) && decide (n8 = 0)) := ⟨_, rfl⟩
  have HE2 : Hid (rvR 7 start O key = ⟨0, [], onT b0 P D7 D7.length⟩) := Lib.hid (by rw [HE.out, onT_all, hb0])
  have HB0 := Lib.hid hb0
  have HSA : Hid (ST w4 Q (.slice A7 n7 c7) D7 (.slice A8 n8 c8) D8 [] b0 (w72.setCell ⟨Q, 2, none⟩ (.bool b0))) := Lib.hid (HST.out.flag HQ4.out b0)
  clear hb0
  by_cases hs0 : start = 0
  · have d1 : decide (start = 0) = true := decide_eq_true hs0
    have hb : b0 = false := by rw [HB0.out, d1]; rfl
    subst hb
    clear d1
    subst hs0
    go_upto_region 42 with (fail)
    obtain ⟨W9, hW9⟩ : ∃ X, X = w72.setCell ⟨Q, 2, none⟩ (.bool false) := ⟨_, rfl⟩
    rw [← hW9]
    have HSB : Hid (ST w4 Q (.slice A7 n7 c7) D7 (.slice A8 n8 c8) D8 [] (onT false P D7 0) W9) := Lib.hid (by rw [hW9]; exact HSA.out)
    clear hW9 q0 q1 q2 qf0 qf1 qf2 HSA
    go_wp2_with fail
    go_loopw [24] (fun i wr => ∃ j : Nat, j ≤ n7 ∧ i = .int .i64 j ∧ Hid (ST w4 Q (.slice A7 n7 c7) D7 (.slice A8 n8 c8) D8 [] (onT false P D7 j) wr)) (fun i _ => n7 - (intOf i).toNat)
    case atStart => exact ⟨0, Nat.zero_le _, rfl, HSB⟩
    case round =>
      obtain ⟨j, hj, rfl, hst⟩ := hrel
      rename World => wr
      by_cases hjn : j < n7
      case neg =>
        obtain rfl : j = n7 := by omega
        obtain ⟨Aq, mq, cq, hqb, hsv⟩ := hst.out.ex
        have HSV := Lib.hid hsv
        have HGW := Lib.hid (HG4.out.trans hst.out.gr)
        have HE3 := HE2
        rw [← HN.out] at HE3
        obtain ⟨oj, hoj⟩ : ∃ o, o = onT false P D7 j := ⟨_, rfl⟩
        rw [← hoj] at hqb HE3
        clear hoj
        obtain ⟨q0, q1, q2⟩ := hqb.cells
        obtain ⟨qf0, qf1, qf2⟩ := hqb.fz
        have hz2 := gr_obj (HGW.out) HZ.out
        have z0 : wr.cell? ⟨w.heap.size + 1 + 1, 0, none⟩ = some (.int .i64 0) := by rw [cell_of_block hz2]; rfl
        have z1 : wr.cell? ⟨w.heap.size + 1 + 1, 1, none⟩ = some (.slice none 0 0) := by rw [cell_of_block hz2]; rfl
        have z2 : wr.cell? ⟨w.heap.size + 1 + 1, 2, none⟩ = some (.bool false) := by rw [cell_of_block hz2]; rfl
        have zf0 := unfrozen_of_block hz2 0
        have zf1 := unfrozen_of_block hz2 1
        have zf2 := unfrozen_of_block hz2 2
        clear hz2 hqb hsv hst
        go_wp2_with fail
        rw [HE3.out]
        refine bodyPost_ret (v := .tuple #[.agg #[.int .i64 0, .slice Aq mq cq, .bool oj], .int .i64 0]) (by simp [results, Tryz.results17, go_sem, *]) rfl ⟨_, rfl, ?_, ?_⟩
        · show SV (((wr.setCell _ _).setCell _ _).setCell _ _) _ _
          have hz2 := gr_obj HGW.out HZ.out
          have hzb : QBox wr (w.heap.size + 1 + 1) 0 none 0 0 false := hz2
          exact HSV.out.kq hzb ((((Kp.refl (some (w.heap.size + 1 + 1)) wr).set (.inr rfl) _ _).set (.inr rfl) _ _).set (.inr rfl) _ _)
        · show Gr w (((wr.setCell _ _).setCell _ _).setCell _ _)
          exact (((HG.out.trans HGW.out).setCell (by simp only []; omega) _).setCell (by simp only []; omega) _).setCell (by simp only []; omega) _
      case pos =>
      have hj0 : (0 : Int) ≤ (j : Int) := Int.natCast_nonneg _
      have hjn1 : (j : Int) < (n7 : Int) := by omega
      have hjl : j < D7.length := by rw [← HN.out]; exact hjn
      obtain ⟨Ar, cr, har, -, -, hat⟩ := hst.out.p4.plv
      obtain ⟨b, off, hA, hpc⟩ := hat j hjl
      subst hA
      injection har with e1 e2 e3
      subst e1
      subst e3
      clear e2
      obtain ⟨y, hy⟩ : ∃ y, y = D7[j] := ⟨_, rfl⟩
      rw [← hy] at hpc
      obtain ⟨vy, hvy, hfy⟩ := hpc
      have hyi : y.2 < y.1.ops.length := by rw [hy]; exact HI7.out _ (List.getElem_mem hjl)
      have HYJ : Hid (D7[j]? = some y) := Lib.hid (by rw [hy]; exact List.getElem?_eq_getElem hjl)
      obtain ⟨Ay, cy, hvf⟩ := tov_form hvy
      subst hvf
      obtain ⟨my, hmy⟩ : ∃ m, m = y.1.ops.length := ⟨_, rfl⟩
      rw [← hmy] at hvy hfy
      have HAN := Lib.hid (fun w1 (g : Gr wr w1) => answered_any y (.slice Ay my cy) _ D8 w1 (hvy.gr g) hyi ((hst.out.p5.plv).gr g) HI8.out)
      obtain ⟨q, hq⟩ : ∃ q, q = ansB y D8 := ⟨_, rfl⟩
      rw [← hq] at HAN
      have HQQ : Hid (P y = !q) := Lib.hid (by rw [HPP.out, hq])
      obtain ⟨⟨f0, f1, f2, f3, f4, f5, f6, f7, f8, f9, f10, f11⟩, f12⟩ := hfy
      have HST0 := hst
      clear hst hat hvy hyi hy hmy hq
      go_wp2_with fail
      refine (HAN.out _ (Gr.refl _)).mono ?_
      rintro e w8 ⟨rfl, g8⟩
      have HST8 := Lib.hid (HST0.out.grow g8)
      clear g8 f0 f1 f2 f3 f4 f5 f6 f7 f8 f9 f10 f11 f12
      cases q
      case true =>
        have HNX : Hid (onT false P D7 (j + 1) = onT false P D7 j) := Lib.hid (by rw [onT_at HYJ.out, HQQ.out]; simp)
        go_wp2_with fail
        go_roundw
        case measure => simp [intOf]; omega
        case rel => exact ⟨j + 1, by omega, by go_num, by rw [HNX.out]; exact HST8⟩
      case false =>
        have HNX : Hid (onT false P D7 (j + 1) = true) := Lib.hid (by rw [onT_at HYJ.out, HQQ.out]; simp)
        have HSN := Lib.hid (HST8.out.flag HQ4.out true)
        obtain ⟨Aq, mq, cq, hqb, hsv⟩ := HST8.out.ex
        obtain ⟨q0, q1, q2⟩ := hqb.cells
        obtain ⟨qf0, qf1, qf2⟩ := hqb.fz
        clear hqb hsv
        go_wp2_with fail
        go_roundw
        case measure => simp [intOf]; omega
        case rel => exact ⟨j + 1, by omega, by go_num, by rw [HNX.out]; exact HSN⟩
  have d1 : decide (start = 0) = false := decide_eq_false hs0
  by_cases hn0 : n8 = 0
  · have hb : b0 = true := by rw [HB0.out, d1, hn0]; rfl
    subst hb
    subst hn0
    go_upto_region 42 with (fail)
    rw [show (start != 0) = true from bne_iff_ne.2 hs0]
    obtain ⟨W9, hW9⟩ : ∃ X, X = w72.setCell ⟨Q, 2, none⟩ (.bool true) := ⟨_, rfl⟩
    rw [← hW9]
    have HSB : Hid (ST w4 Q (.slice A7 n7 c7) D7 (.slice A8 0 c8) D8 [] (onT true P D7 0) W9) := Lib.hid (by rw [hW9]; exact HSA.out)
    clear hW9 q0 q1 q2 qf0 qf1 qf2 HSA
    go_wp2_with fail
    go_loopw [24] (fun i wr => ∃ j : Nat, j ≤ n7 ∧ i = .int .i64 j ∧ Hid (ST w4 Q (.slice A7 n7 c7) D7 (.slice A8 0 c8) D8 [] (onT true P D7 j) wr)) (fun i _ => n7 - (intOf i).toNat)
    case atStart => exact ⟨0, Nat.zero_le _, rfl, HSB⟩
    case round =>
      obtain ⟨j, hj, rfl, hst⟩ := hrel
      rename World => wr
      by_cases hjn : j < n7
      case neg =>
        obtain rfl : j = n7 := by omega
        obtain ⟨Aq, mq, cq, hqb, hsv⟩ := hst.out.ex
        have HSV := Lib.hid hsv
        have HGW := Lib.hid (HG4.out.trans hst.out.gr)
        have HE3 := HE2
        rw [← HN.out] at HE3
        obtain ⟨oj, hoj⟩ : ∃ o, o = onT true P D7 j := ⟨_, rfl⟩
        rw [← hoj] at hqb HE3
        clear hoj
        obtain ⟨q0, q1, q2⟩ := hqb.cells
        obtain ⟨qf0, qf1, qf2⟩ := hqb.fz
        have hz2 := gr_obj (HGW.out) HZ.out
        have z0 : wr.cell? ⟨w.heap.size + 1 + 1, 0, none⟩ = some (.int .i64 0) := by rw [cell_of_block hz2]; rfl
        have z1 : wr.cell? ⟨w.heap.size + 1 + 1, 1, none⟩ = some (.slice none 0 0) := by rw [cell_of_block hz2]; rfl
        have z2 : wr.cell? ⟨w.heap.size + 1 + 1, 2, none⟩ = some (.bool false) := by rw [cell_of_block hz2]; rfl
        have zf0 := unfrozen_of_block hz2 0
        have zf1 := unfrozen_of_block hz2 1
        have zf2 := unfrozen_of_block hz2 2
        clear hz2 hqb hsv hst
        go_wp2_with fail
        rw [HE3.out]
        refine bodyPost_ret (v := .tuple #[.agg #[.int .i64 0, .slice Aq mq cq, .bool oj], .int .i64 0]) (by simp [results, Tryz.results17, go_sem, *]) rfl ⟨_, rfl, ?_, ?_⟩
        · show SV (((wr.setCell _ _).setCell _ _).setCell _ _) _ _
          have hz2 := gr_obj HGW.out HZ.out
          have hzb : QBox wr (w.heap.size + 1 + 1) 0 none 0 0 false := hz2
          exact HSV.out.kq hzb ((((Kp.refl (some (w.heap.size + 1 + 1)) wr).set (.inr rfl) _ _).set (.inr rfl) _ _).set (.inr rfl) _ _)
        · show Gr w (((wr.setCell _ _).setCell _ _).setCell _ _)
          exact (((HG.out.trans HGW.out).setCell (by simp only []; omega) _).setCell (by simp only []; omega) _).setCell (by simp only []; omega) _
      case pos =>
      have hj0 : (0 : Int) ≤ (j : Int) := Int.natCast_nonneg _
      have hjn1 : (j : Int) < (n7 : Int) := by omega
      have hjl : j < D7.length := by rw [← HN.out]; exact hjn
      obtain ⟨Ar, cr, har, -, -, hat⟩ := hst.out.p4.plv
      obtain ⟨b, off, hA, hpc⟩ := hat j hjl
      subst hA
      injection har with e1 e2 e3
      subst e1
      subst e3
      clear e2
      obtain ⟨y, hy⟩ : ∃ y, y = D7[j] := ⟨_, rfl⟩
      rw [← hy] at hpc
      obtain ⟨vy, hvy, hfy⟩ := hpc
      have hyi : y.2 < y.1.ops.length := by rw [hy]; exact HI7.out _ (List.getElem_mem hjl)
      have HYJ : Hid (D7[j]? = some y) := Lib.hid (by rw [hy]; exact List.getElem?_eq_getElem hjl)
      obtain ⟨Ay, cy, hvf⟩ := tov_form hvy
      subst hvf
      obtain ⟨my, hmy⟩ : ∃ m, m = y.1.ops.length := ⟨_, rfl⟩
      rw [← hmy] at hvy hfy
      have HAN := Lib.hid (fun w1 (g : Gr wr w1) => answered_any y (.slice Ay my cy) _ D8 w1 (hvy.gr g) hyi ((hst.out.p5.plv).gr g) HI8.out)
      obtain ⟨q, hq⟩ : ∃ q, q = ansB y D8 := ⟨_, rfl⟩
      rw [← hq] at HAN
      have HQQ : Hid (P y = !q) := Lib.hid (by rw [HPP.out, hq])
      obtain ⟨⟨f0, f1, f2, f3, f4, f5, f6, f7, f8, f9, f10, f11⟩, f12⟩ := hfy
      have HST0 := hst
      clear hst hat hvy hyi hy hmy hq
      go_wp2_with fail
      refine (HAN.out _ (Gr.refl _)).mono ?_
      rintro e w8 ⟨rfl, g8⟩
      have HST8 := Lib.hid (HST0.out.grow g8)
      clear g8 f0 f1 f2 f3 f4 f5 f6 f7 f8 f9 f10 f11 f12
      cases q
      case true =>
        have HNX : Hid (onT true P D7 (j + 1) = onT true P D7 j) := Lib.hid (by rw [onT_at HYJ.out, HQQ.out]; simp)
        go_wp2_with fail
        go_roundw
        case measure => simp [intOf]; omega
        case rel => exact ⟨j + 1, by omega, by go_num, by rw [HNX.out]; exact HST8⟩
      case false =>
        have HNX : Hid (onT true P D7 (j + 1) = true) := Lib.hid (by rw [onT_at HYJ.out, HQQ.out]; simp)
        have HSN := Lib.hid (HST8.out.flag HQ4.out true)
        obtain ⟨Aq, mq, cq, hqb, hsv⟩ := HST8.out.ex
        obtain ⟨q0, q1, q2⟩ := hqb.cells
        obtain ⟨qf0, qf1, qf2⟩ := hqb.fz
        clear hqb hsv
        go_wp2_with fail
        go_roundw
        case measure => simp [intOf]; omega
        case rel => exact ⟨j + 1, by omega, by go_num, by rw [HNX.out]; exact HSN⟩
  have hb : b0 = false := by rw [HB0.out, d1, decide_eq_false hn0]; rfl
  subst hb
  have hn1 : ¬ (n8 : Int) = 0 := by omega
  go_upto_region 42 with (fail)
  rw [show ((n8 : Int) == 0) = false from beq_eq_false_iff_ne.2 hn1, Bool.and_false]
  obtain ⟨W9, hW9⟩ : ∃ X, X = w72.setCell ⟨Q, 2, none⟩ (.bool false) := ⟨_, rfl⟩
  rw [← hW9]
  have HSB : Hid (ST w4 Q (.slice A7 n7 c7) D7 (.slice A8 n8 c8) D8 [] (onT false P D7 0) W9) := Lib.hid (by rw [hW9]; exact HSA.out)
  clear hW9 q0 q1 q2 qf0 qf1 qf2 HSA
  go_wp2_with fail
  go_loopw [24] (fun i wr => ∃ j : Nat, j ≤ n7 ∧ i = .int .i64 j ∧ Hid (ST w4 Q (.slice A7 n7 c7) D7 (.slice A8 n8 c8) D8 [] (onT false P D7 j) wr)) (fun i _ => n7 - (intOf i).toNat)
  case atStart => exact ⟨0, Nat.zero_le _, rfl, HSB⟩
  case round =>
    obtain ⟨j, hj, rfl, hst⟩ := hrel
    rename World => wr
    by_cases hjn : j < n7
    case neg =>
      obtain rfl : j = n7 := by omega
      obtain ⟨Aq, mq, cq, hqb, hsv⟩ := hst.out.ex
      have HSV := Lib.hid hsv
      have HGW := Lib.hid (HG4.out.trans hst.out.gr)
      have HE3 := HE2
      rw [← HN.out] at HE3
      obtain ⟨oj, hoj⟩ : ∃ o, o = onT false P D7 j := ⟨_, rfl⟩
      rw [← hoj] at hqb HE3
      clear hoj
      obtain ⟨q0, q1, q2⟩ := hqb.cells
      obtain ⟨qf0, qf1, qf2⟩ := hqb.fz
      have hz2 := gr_obj (HGW.out) HZ.out
      have z0 : wr.cell? ⟨w.heap.size + 1 + 1, 0, none⟩ = some (.int .i64 0) := by rw [cell_of_block hz2]; rfl
      have z1 : wr.cell? ⟨w.heap.size + 1 + 1, 1, none⟩ = some (.slice none 0 0) := by rw [cell_of_block hz2]; rfl
      have z2 : wr.cell? ⟨w.heap.size + 1 + 1, 2, none⟩ = some (.bool false) := by rw [cell_of_block hz2]; rfl
      have zf0 := unfrozen_of_block hz2 0
      have zf1 := unfrozen_of_block hz2 1
      have zf2 := unfrozen_of_block hz2 2
      clear hz2 hqb hsv hst
      go_wp2_with fail
      rw [HE3.out]
      refine bodyPost_ret (v := .tuple #[.agg #[.int .i64 0, .slice Aq mq cq, .bool oj], .int .i64 0]) (by simp [results, Tryz.results17, go_sem, *]) rfl ⟨_, rfl, ?_, ?_⟩
      · show SV (((wr.setCell _ _).setCell _ _).setCell _ _) _ _
        have hz2 := gr_obj HGW.out HZ.out
        have hzb : QBox wr (w.heap.size + 1 + 1) 0 none 0 0 false := hz2
        exact HSV.out.kq hzb ((((Kp.refl (some (w.heap.size + 1 + 1)) wr).set (.inr rfl) _ _).set (.inr rfl) _ _).set (.inr rfl) _ _)
      · show Gr w (((wr.setCell _ _).setCell _ _).setCell _ _)
        exact (((HG.out.trans HGW.out).setCell (by simp only []; omega) _).setCell (by simp only []; omega) _).setCell (by simp only []; omega) _
    case pos =>
    have hj0 : (0 : Int) ≤ (j : Int) := Int.natCast_nonneg _
    have hjn1 : (j : Int) < (n7 : Int) := by omega
    have hjl : j < D7.length := by rw [← HN.out]; exact hjn
    obtain ⟨Ar, cr, har, -, -, hat⟩ := hst.out.p4.plv
    obtain ⟨b, off, hA, hpc⟩ := hat j hjl
    subst hA
    injection har with e1 e2 e3
    subst e1
    subst e3
    clear e2
    obtain ⟨y, hy⟩ : ∃ y, y = D7[j] := ⟨_, rfl⟩
    rw [← hy] at hpc
    obtain ⟨vy, hvy, hfy⟩ := hpc
    have hyi : y.2 < y.1.ops.length := by rw [hy]; exact HI7.out _ (List.getElem_mem hjl)
    have HYJ : Hid (D7[j]? = some y) := Lib.hid (by rw [hy]; exact List.getElem?_eq_getElem hjl)
    obtain ⟨Ay, cy, hvf⟩ := tov_form hvy
    subst hvf
    obtain ⟨my, hmy⟩ : ∃ m, m = y.1.ops.length := ⟨_, rfl⟩
    rw [← hmy] at hvy hfy
    have HAN := Lib.hid (fun w1 (g : Gr wr w1) => answered_any y (.slice Ay my cy) _ D8 w1 (hvy.gr g) hyi ((hst.out.p5.plv).gr g) HI8.out)
    obtain ⟨q, hq⟩ : ∃ q, q = ansB y D8 := ⟨_, rfl⟩
    rw [← hq] at HAN
    have HQQ : Hid (P y = !q) := Lib.hid (by rw [HPP.out, hq])
    obtain ⟨⟨f0, f1, f2, f3, f4, f5, f6, f7, f8, f9, f10, f11⟩, f12⟩ := hfy
    have HST0 := hst
    clear hst hat hvy hyi hy hmy hq
    go_wp2_with fail
    refine (HAN.out _ (Gr.refl _)).mono ?_
    rintro e w8 ⟨rfl, g8⟩
    have HST8 := Lib.hid (HST0.out.grow g8)
    clear g8 f0 f1 f2 f3 f4 f5 f6 f7 f8 f9 f10 f11 f12
    cases q
    case true =>
      have HNX : Hid (onT false P D7 (j + 1) = onT false P D7 j) := Lib.hid (by rw [onT_at HYJ.out, HQQ.out]; simp)
      go_wp2_with fail
      go_roundw
      case measure => simp [intOf]; omega
      case rel => exact ⟨j + 1, by omega, by go_num, by rw [HNX.out]; exact HST8⟩
    case false =>
      have HNX : Hid (onT false P D7 (j + 1) = true) := Lib.hid (by rw [onT_at HYJ.out, HQQ.out]; simp)
      have HSN := Lib.hid (HST8.out.flag HQ4.out true)
      obtain ⟨Aq, mq, cq, hqb, hsv⟩ := HST8.out.ex
      obtain ⟨q0, q1, q2⟩ := hqb.cells
      obtain ⟨qf0, qf1, qf2⟩ := hqb.fz
      clear hqb hsv
      go_wp2_with fail
      go_roundw
      case measure => simp [intOf]; omega
      case rel => exact ⟨j + 1, by omega, by go_num, by rw [HNX.out]; exact HSN⟩
end Go.Proofs.YtlihcjlonafohaaGreat
