/- Walks: the document's Value, kind 1. Written by wip/tools/genrv.py. -/
import Derived.Test.YtaldgjcbbjjceaaGVdH
namespace Go.Proofs.Ytaldgjcbbjjceaa
open Go.RowKit Go.Joins
set_option linter.unusedSimpArgs false
set_option linter.unusedVariables false

set_option maxRecDepth 100000 in
set_option maxHeartbeats 8000000 in
theorem rvalK1 (start : Int) (u : Nat → S3) (l : LG) (v : Nat → Nat) (key : ByteArray) (w : World) (h : LV w u l) (hq : FitQ l) (hfc : FitC l) (hok : checkE l = 0) (hcl : closedB l v = true) (hb : wrap64 start = start) :
    Calls Try.prog 13 #[.int .i64 1, .int .i64 start, .agg (lcells u), .agg (vcells v), .string key] w fun e w' => RetR (rvR 1 start (ordR l v) key) 0 w e w' := by
  obtain ⟨W, hW, hg, hL, hV, hz⟩ := boxesVa u v w
  have HSW : Hid (w.heap.size + 1 + 1 < W.heap.size) := Lib.hid (by rw [hW]; simp)
  have HL := Lib.hid hL
  have HV := Lib.hid hV
  have HZ := Lib.hid hz
  have HG := Lib.hid hg
  have HBD := Lib.hid hb
  have hl := okL_iff.1 hok
  have HCK := Lib.hid (fun w1 (g : Gr W w1) => rcheck9_any u l w1 ((h.gr hg).gr g) hq)
  have HCL := Lib.hid (fun w1 (g : Gr W w1) => rclosed_any u l v w1 ((h.gr hg).gr g))
  have HOR := Lib.hid (fun w1 (g : Gr W w1) => rord9_any u l v w1 ((h.gr hg).gr g) hfc hl.len)
  rw [hok] at HCK
  rw [hcl] at HCL
  obtain ⟨O, hO⟩ : ∃ O, O = ordR l v := ⟨_, rfl⟩
  have HOP : Hid (∀ t ∈ O, t.ops.length ≤ 8) := Lib.hid (by rw [hO]; exact ok_ops hl)
  have HOL : Hid (O.length ≤ 65536) := Lib.hid (by rw [hO]; exact ok_len hl)
  rw [← hO] at HOR ⊢
  obtain ⟨l0, l1, l2, l3, l4, l5, l6, l7⟩ := hL.all
  clear hL hV hz hg h hq hfc hok hcl hb hl hO
  go_enter Try.func13, Try.ntmps13
  go_upto_region 1 with (fail)
  rw [← hW]
  clear hW
  go_wp2_with fail
  refine (HCK.out _ (Gr.refl _)).mono ?_
  rintro e w2 ⟨rfl, g2⟩
  have HG2 := Lib.hid g2
  clear g2 l0 l1 l2 l3 l4 l5 l6 l7
  obtain ⟨l0, l1, l2, l3, l4, l5, l6, l7⟩ := (HL.out.gr HG2.out).all
  obtain ⟨v0, v1, v2, v3, v4, v5, v6, v7⟩ := (HV.out.gr HG2.out).all
  go_wp2_with fail
  refine (HCL.out _ HG2.out).mono ?_
  rintro e w3 ⟨rfl, g3⟩
  have HG3 := Lib.hid (HG2.out.trans g3)
  clear g3 l0 l1 l2 l3 l4 l5 l6 l7 v0 v1 v2 v3 v4 v5 v6 v7
  obtain ⟨l0, l1, l2, l3, l4, l5, l6, l7⟩ := (HL.out.gr HG3.out).all
  obtain ⟨v0, v1, v2, v3, v4, v5, v6, v7⟩ := (HV.out.gr HG3.out).all
  go_wp2_with fail
  refine (HOR.out _ HG3.out).mono ?_
  rintro e w4 ⟨s, rfl, hxn, g4⟩
  have HG4 := Lib.hid (HG3.out.trans g4)
  have hx := hxn.xv
  obtain ⟨Ax, cx, hs, -⟩ := XV.gr hx (Gr.refl _)
  subst hs
  obtain ⟨W5, hW5, g5, hq5⟩ := qbox_new w4
  obtain ⟨Q, hQ⟩ : ∃ Q, Q = w4.heap.size := ⟨_, rfl⟩
  have HQW : Hid (W.heap.size ≤ Q) := Lib.hid (by rw [hQ]; exact HG4.out.size)
  have HQ4 : Hid (w4.heap.size ≤ Q) := Lib.hid (by rw [hQ]; exact Nat.le_refl _)
  rw [← hQ] at hq5
  have HP4 := Lib.hid (fun w1 (g : Gr W5 w1) => placesP_any _ O key 4 w1 ((hx.gr g5).gr g) HOP.out HOL.out)
  have HP5 := Lib.hid (fun w1 (g : Gr W5 w1) => placesP_any _ O key 5 w1 ((hx.gr g5).gr g) HOP.out HOL.out)
  have HSU := Lib.hid (fun w1 (g : Gr W5 w1) => rsum_any _ O key w1 ((hx.gr g5).gr g) HOP.out HOL.out)
  obtain ⟨nx, hnx⟩ : ∃ n, n = O.length := ⟨_, rfl⟩
  rw [← hnx] at HP4 HP5 HSU ⊢
  have HQ5 := Lib.hid hq5
  have HGW5 := Lib.hid (HG4.out.trans g5)
  have HG45 := Lib.hid g5
  clear g4 hxn hx hnx l0 l1 l2 l3 l4 l5 l6 l7 v0 v1 v2 v3 v4 v5 v6 v7 hq5 g5
  go_upto_region 10 with (fail)
  rw [← hW5, ← hQ]
  clear hW5 hQ
  go_wp2_with fail
  refine (HP4.out _ (Gr.refl _)).mono ?_
  rintro e w6 ⟨A4, c4, rfl, hp4, g6⟩
  have HG6 := Lib.hid g6
  obtain ⟨n4, hn4⟩ : ∃ n, n = (plL key 4 O).length := ⟨_, rfl⟩
  rw [← hn4] at hp4 ⊢
  have HN4 := Lib.hid hn4
  have HR40 := Lib.hid hp4
  clear g6 hn4 hp4
  go_wp2_with fail
  refine (HP5.out _ HG6.out).mono ?_
  rintro e w7 ⟨A5, c5, rfl, hp5, g7⟩
  have HG7 := Lib.hid (HG6.out.trans g7)
  obtain ⟨n5, hn5⟩ : ∃ n, n = (plL key 5 O).length := ⟨_, rfl⟩
  rw [← hn5] at hp5 ⊢
  have HR4 := Lib.hid (HR40.out.gr g7)
  have HR5 := Lib.hid hp5
  have HN5 := Lib.hid hn5
  clear g7 hp5 hn5 HR40
  obtain ⟨x, hxx⟩ : ∃ x, x = wrap64 (sumAll (plL key 1 O) - sumAll (plL key 2 O)) := ⟨_, rfl⟩
  have HE : Hid (rvR 1 start O key = ⟨wrap64 (start + x), [], false⟩) := Lib.hid (by rw [hxx]; rfl)
  rw [← hxx] at HSU
  clear hxx
  go_wp2_with fail
  refine (HSU.out _ HG7.out).mono ?_
  rintro e w8 ⟨rfl, g8⟩
  have HG8 := Lib.hid (HG7.out.trans g8)
  have HQ8 := Lib.hid (HQ5.out.gr HG8.out)
  have HW8 := Lib.hid (HGW5.out.trans HG8.out)
  clear g8
  obtain ⟨q0, q1, q2⟩ := HQ8.out.cells
  obtain ⟨qf0, qf1, qf2⟩ := HQ8.out.fz
  have hz2 := gr_obj (HW8.out) HZ.out
  have z0 : w8.cell? ⟨w.heap.size + 1 + 1, 0, none⟩ = some (.int .i64 0) := by rw [cell_of_block hz2]; rfl
  have z1 : w8.cell? ⟨w.heap.size + 1 + 1, 1, none⟩ = some (.slice none 0 0) := by rw [cell_of_block hz2]; rfl
  have z2 : w8.cell? ⟨w.heap.size + 1 + 1, 2, none⟩ = some (.bool false) := by rw [cell_of_block hz2]; rfl
  have zf0 := unfrozen_of_block hz2 0
  have zf1 := unfrozen_of_block hz2 1
  have zf2 := unfrozen_of_block hz2 2
  have hne : ¬ Q = w.heap.size + 1 + 1 := by have := HSW.out; have := HQW.out; omega
  have hne' : ¬ w.heap.size + 1 + 1 = Q := fun e => hne e.symm
  clear hz2
  go_wp2_with fail
  rw [HE.out]
  refine bodyPost_ret (v := .tuple #[.agg #[.int .i64 (wrap64 (start + x)), .slice none 0 0, .bool false], .int .i64 0]) (by simp [results, Try.results13, go_sem, *]) rfl ⟨_, rfl, SV.nil _, ?_⟩
  show Gr w ((((w8.setCell _ _).setCell _ _).setCell _ _).setCell _ _)
  exact ((((HG.out.trans HW8.out).setCell (by have := HSW.out; have := HQW.out; simp only []; omega) _).setCell (by simp only []; omega) _).setCell (by simp only []; omega) _).setCell (by simp only []; omega) _
end Go.Proofs.Ytaldgjcbbjjceaa
