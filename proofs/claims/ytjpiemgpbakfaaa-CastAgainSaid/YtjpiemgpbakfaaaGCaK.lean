/- The law CastAgain. Written by wip/tools/gencak.py. -/
import Derived.Test.YtjpiemgpbakfaaaG33
namespace Go.Proofs.Ytjpiemgpbakfaaa
open Go.RowKit Go.Joins
set_option linter.unusedSimpArgs false
set_option linter.unusedVariables false

set_option maxRecDepth 100000 in
set_option maxHeartbeats 16000000 in
theorem again13_law (v : Value) (L : List TX) (t : TX) (vt : Value) (w : World) (hx : XV w v L) (hL : ∀ x ∈ L, FitT x) (hv : TOV w vt t.ops) (ht : FitT t) :
    Calls Try.prog 5 #[v, .agg (tcs t vt)] w fun e w' => e = .returned (.bool true) ∧ Gr w w' := by
  obtain ⟨Al, cl, rfl⟩ := xv_form hx
  obtain ⟨At, ct, rfl⟩ := tov_form hv
  obtain ⟨nt, hnt⟩ : ∃ n, n = t.ops.length := ⟨_, rfl⟩
  obtain ⟨nl, hnl⟩ : ∃ n, n = L.length := ⟨_, rfl⟩
  rw [← hnt] at hv ⊢
  rw [← hnl] at hx ⊢
  obtain ⟨W, hW, hg, hxt⟩ := xbox w t (.slice At nt ct)
  have HAW := Lib.hid (awake13_any W)
  have HG := Lib.hid hg
  have HX := Lib.hid hxt
  have HXV := Lib.hid hx
  have HTV := Lib.hid hv
  have HFL := Lib.hid hL
  have HFT := Lib.hid ht
  have HNT := Lib.hid hnt
  have HNL := Lib.hid hnl
  clear hg hxt hx hv hL ht hnt hnl
  go_enter Try.func5, Try.ntmps5
  go_upto_region 1 with (fail)
  rw [← hW]
  clear hW
  go_wp2_with fail
  refine HAW.out.mono ?_
  rintro e W1 ⟨rfl, hg1⟩
  obtain ⟨W2, hW2, hg2, hb2⟩ : ∃ x, x = W1.alloc (.cells zic 35) ∧ Gr W1 x ∧ IBox x W1.heap.size Z3 N3 := ⟨_, rfl, (Gr.refl _).alloc _, zibox W1⟩
  have HIN0 : Hid (InR w W1.heap.size Z3 none 0 0 (nilL, []) W2) := Lib.hid ⟨hb2, LN.nil _ _, nil_XN _ _, (HG.out.trans hg1).size, (HG.out.trans hg1).trans hg2⟩
  have HGW0 := Lib.hid (hg1.trans hg2)
  have HGBW := hg1.size
  clear hg1 hg2 hb2
  go_upto_region 4 with (fail)
  change Code.wp Try.prog _ _ _ (W1.alloc (.cells zic 35))
  rw [← hW2]
  obtain ⟨b, hb⟩ : ∃ b, b = W1.heap.size := ⟨_, rfl⟩
  have HGB : Hid (W.heap.size ≤ b) := Lib.hid (by rw [hb]; exact HGBW)
  rw [← hb] at HIN0 ⊢
  clear hW2 hb HAW HGBW
  go_wp2_with fail
  go_loopw [6] (fun i wr => ∃ k : Nat, k ≤ nl ∧ k ≤ 60 ∧ i = .int .i64 k ∧ Hid ((∃ u A n c, InR w b u A n c (rcds (nilL, []) (L.take k)) wr) ∧ Gr W wr)) (fun i _ => 60 - (intOf i).toNat)
  case atStart => exact ⟨0, Nat.zero_le _, by decide, rfl, Lib.hid ⟨⟨_, _, _, _, HIN0.out⟩, HGW0.out⟩⟩
  case round =>
    clear HIN0 HGW0
    obtain ⟨k, hk, hk60, rfl, hst⟩ := hrel
    rename World => wr
    have hk0 : (0 : Int) ≤ (k : Int) := Int.natCast_nonneg _
    obtain ⟨s, hs⟩ : ∃ s, s = rcds (nilL, []) (L.take k) := ⟨_, rfl⟩
    have HS := Lib.hid hs
    have HFI : Hid (FitI s) := Lib.hid (by rw [hs]; exact rcds_keep (P := FitI) (Q := FitT) (fun s t h1 h2 => fitI_rcd h1 h2) _ _ fitI_nil fun t ht => HFL.out t (List.mem_of_mem_take ht))
    rw [← hs] at hst
    obtain ⟨⟨u1, A1, n1, c1, hin⟩, hgw⟩ := hst.out
    have HIN := Lib.hid hin
    have HGW := Lib.hid hgw
    clear hs hst hin hgw
    by_cases hlt : k < nl ∧ k < 60
    · obtain ⟨hl1, hl2⟩ := hlt
      have hi1 : (k : Int) < (nl : Int) := by omega
      have hi2 : (k : Int) < 60 := by omega
      have hkl : k < L.length := by rw [← HNL.out]; exact hl1
      obtain ⟨A', c', hv', h1, h2, h3⟩ := HXV.out
      injection hv' with e1 e2 e3
      obtain ⟨bl, off, ha, xv, hx0, hx⟩ := h3 k hkl
      rw [← e1] at ha
      subst ha
      obtain ⟨x, hxe⟩ : ∃ x, x = L[k] := ⟨_, rfl⟩
      rw [← hxe] at hx0 hx
      obtain ⟨Ax, cx, rfl⟩ := tov_form hx0
      have HAT : Hid (L[k]? = some x) := Lib.hid (by rw [hxe]; exact List.getElem?_eq_getElem hkl)
      have hfx := HFL.out x (by rw [hxe]; exact List.getElem_mem hkl)
      have HRC := Lib.hid (fun w1 (g : Gr wr w1) => received_any u1 A1 n1 c1 s x Ax x.ops.length cx w1 (HIN.out.next g).iv (hx0.gr (HIN.out.next g).gr) rfl HFI.out hfx)
      obtain ⟨nx, hnx⟩ : ∃ n, n = x.ops.length := ⟨_, rfl⟩
      rw [← hnx] at hx HRC
      have HXX := Lib.hid hx
      clear hx0 hx hxe hnx hfx h1 h2 h3 e1 e2 e3 hkl
      go_upto_region 7 with (fail)
      refine qTail 5 (fun w' => IC w' b u1 ⟨A1, n1, c1⟩ ∧ XFix w' bl (off + k * 12) x (.slice Ax nx cx) ∧ Gr wr w') (by kernel_rfl) (by kernel_rfl) ⟨IBox.all (HIN.out.bx.gr (Gr.refl _).drew), HXX.out.gr (HIN.out.gr.trans (Gr.refl _).drew), (Gr.refl _).drew⟩ ?_
      simp only [List.take_succ_cons, List.take_zero, List.drop_succ_cons, List.drop_zero]
      iterate 5
        refine qTake (by kernel_rfl) ?_
        apply Exists.intro
        refine ⟨fun wq hq => ?_, ?_⟩
        · go_light
          obtain ⟨⟨b0, b1, b2, b3, b4, b5, b6, b7, b8⟩, ⟨x0, x1, x2, x3, x4, x5, x6, x7, x8, x9, x10, x11⟩, hg⟩ := hq
          go_simp
          try with_reducible rfl
          done
        try simp only [Act.put, List.setIfInBounds_toArray, List.set_cons_zero, List.set_cons_succ]
      refine qNil ?_
      intro w3 hC
      have HG3 := Lib.hid hC.2.2
      clear hC
      go_wp2_with fail
      refine (HRC.out w3 HG3.out).mono ?_
      rintro e w4 ⟨u4, ⟨A4, n4, c4⟩, rfl, hr4, g4⟩
      have hb4 := HIN.out.bx.gr (HG3.out.trans g4)
      have HP4 : Hid (InR w b u4 A4 n4 c4 (rcd s x) (putI w4 b u4 ⟨A4, n4, c4⟩) ∧ Gr W (putI w4 b u4 ⟨A4, n4, c4⟩)) := Lib.hid ⟨(HIN.out.next HG3.out).put g4 hr4, putI_gr (HGW.out.trans (HG3.out.trans g4)) (by have := HGB.out; omega) _ _⟩
      obtain ⟨z0, z1, z2, z3, z4, z5, z6, z7, z8⟩ := hb4.all
      obtain ⟨f0, f1, f2, f3, f4, f5, f6, f7, f8⟩ := hb4.fz
      clear hb4 hr4 g4
      go_wp2_with fail
      go_roundw
      case measure => simp [intOf]; omega
      case rel => exact ⟨k + 1, by omega, by omega, by go_num, Lib.hid ⟨⟨u4, A4, n4, c4, by rw [rcds_next HAT.out, ← HS.out]; exact HP4.out.1⟩, HP4.out.2⟩⟩
    · have HCP := Lib.hid (fun w1 (g : Gr wr w1) => rcopy8_form t At nt ct HNT.out w1 ((HTV.out.gr HIN.out.gr).gr g) HFT.out.2.1)
      have HLS : Hid (LenI s) := Lib.hid (by rw [HS.out]; exact rcds_keep (P := LenI) (Q := fun _ => True) (fun s t h1 _ => lenI_rcd h1) _ _ lenI_nil fun _ _ => trivial)
      obtain ⟨R0, hR0⟩ : ∃ R, R = recvR s t := ⟨_, rfl⟩
      have HRC := Lib.hid (fun w1 (g : Gr wr w1) (x : Option Addr) (c : Nat) (hx : TOV w1 (.slice x nt c) t.ops) => receive_any u1 A1 n1 c1 s.1 s.2 t x nt c w1 (HIN.out.next g).iv.lv (HIN.out.next g).iv.xv HIN.out.iv.ln hx HFI.out.fc HFI.out.ft HFT.out (by rw [HIN.out.iv.ln]; exact HFI.out.le))
      have HRE : Hid (R0 = recvR s t) := Lib.hid hR0
      have e0 : recvR (s.1, s.2) t = R0 := hR0.symm
      rw [e0] at HRC
      obtain ⟨r, d, er⟩ := R0
      have HBS : Hid (w.heap.size ≤ wr.heap.size) := Lib.hid HIN.out.gr.size
      clear hR0 e0
      have HD0 : Hid (¬ er = 0 → d = 0) := Lib.hid fun h => by
        have := recvR_no (s := s) (t := t) (by rw [← HRE.out]; exact h)
        rw [← HRE.out] at this
        exact this
      have hgo : ¬ ((k : Int) < (nl : Int) ∧ (k : Int) < 60) := by omega
      have hdc : (k : Int) < (nl : Int) → ¬ (k : Int) < 60 := fun h1 h2 => hgo ⟨h1, h2⟩
      by_cases hl1 : (k : Int) < (nl : Int)
      · have hl2 := hdc hl1
        clear hgo hdc
        go_upto_region 8 with (fail)
        refine wp_region_noPanic ?_
        refine iRegionA (RI btI wr (fun k => ((SIr (w.heap.size) u1 ⟨A1, n1, c1⟩ t (.slice At nt ct) nt r d er) k).P) [(8, 9, 5)] (fun _ => 35) (fun _ => zic)) (by kernel_rfl) (by kernel_rfl) (ri_start (fun k y wA wB => ((SIr (w.heap.size) u1 ⟨A1, n1, c1⟩ t (.slice At nt ct) nt r d er) k).st y wA wB) (Gr.refl _)) ?_ ?_
        · intro i o ho vals wcf A hI hn hdep hOld hNew
          have hi : i < 12 := (List.getElem?_eq_some_iff.1 ho).1
          have q := ((HIN.out.bx.gr hI.gr)).all
          have b0 := q.1
          have b1 := q.2.1
          have b2 := q.2.2.1
          have b3 := q.2.2.2.1
          have b4 := q.2.2.2.2.1
          have b5 := q.2.2.2.2.2.1
          have b6 := q.2.2.2.2.2.2.1
          have b7 := q.2.2.2.2.2.2.2.1
          have b8 := q.2.2.2.2.2.2.2.2
          obtain ⟨x0, x1, x2, x3, x4, x5, x6, x7, x8, x9, x10, x11⟩ := HX.out.gr ((HGW.out).trans hI.gr)
          clear q
          have eo5 : A.tmps[5]?.getD undef = .pointer (some ⟨b, 0, none⟩) := slotE (hOld 5 (by kernel_rfl))
          have eo3 : A.tmps[3]?.getD undef = .pointer (some ⟨w.heap.size, 0, none⟩) := slotE (hOld 3 (by kernel_rfl))
          obtain rfl | rfl | rfl | rfl | rfl | rfl | rfl | rfl | rfl | rfl | rfl | rfl : i = 0 ∨ i = 1 ∨ i = 2 ∨ i = 3 ∨ i = 4 ∨ i = 5 ∨ i = 6 ∨ i = 7 ∨ i = 8 ∨ i = 9 ∨ i = 10 ∨ i = 11 := by omega
          · obtain rfl := Option.some.inj (show some _ = some o from ho)
            refine aVal rfl rfl (v := .agg (icells u1 ⟨A1, n1, c1⟩)) (w' := wcf) ?_ ⟨_, rfl, hI.val hn (by decide) (rfl)⟩
            go_simp
          · obtain rfl := Option.some.inj (show some _ = some o from ho)
            refine aVal rfl rfl (v := .agg (tcs t (.slice At nt ct))) (w' := wcf) ?_ ⟨_, rfl, hI.val hn (by decide) (rfl)⟩
            go_simp
          · obtain rfl := Option.some.inj (show some _ = some o from ho)
            obtain ⟨y1, hy1⟩ := hdep ⟨1, .data⟩ (by simp) rfl
            obtain rfl : y1 = .agg (tcs t (.slice At nt ct)) := hI.ok 1 y1 hy1
            have s1 := slotE (hNew 1 33 _ _ rfl rfl (by kernel_rfl) hy1)
            refine aCall rfl rfl (w1 := wcf) ?_ ((HCP.out wcf hI.gr).mono fun e w' ⟨ta, tc, he, ho, hg⟩ => ⟨_, he, _, rfl, (hI.next hg).val hn (by decide) (⟨ta, tc, rfl, ho.le (Nat.le_trans HBS.out hI.gr.size)⟩)⟩)
            go_simp
          · obtain rfl := Option.some.inj (show some _ = some o from ho)
            obtain ⟨y0, hy0⟩ := hdep ⟨0, .data⟩ (by simp) rfl
            obtain rfl : y0 = .agg (icells u1 ⟨A1, n1, c1⟩) := hI.ok 0 y0 hy0
            have s0 := slotE (hNew 0 32 _ _ rfl rfl (by kernel_rfl) hy0)
            obtain ⟨y2, hy2⟩ := hdep ⟨2, .data⟩ (by simp) rfl
            obtain ⟨ta2, tc2, rfl, hl2⟩ : ∃ x c, y2 = .agg (tcs t (.slice x nt c)) ∧ TOO wcf (w.heap.size) (.slice x nt c) t.ops := hI.ok 2 y2 hy2
            have s2 := slotE (hNew 2 34 _ _ rfl rfl (by kernel_rfl) hy2)
            refine aCall rfl rfl (w1 := wcf) ?_ ((HRC.out wcf hI.gr ta2 tc2 hl2.tov).mono fun e w' ⟨ur, sr, he, h1, h2, hg⟩ => ⟨_, he, _, rfl, (hI.next hg).val hn (by decide) (⟨ur, sr, rfl, h1.le (Nat.le_trans HBS.out hI.gr.size), h2.le (Nat.le_trans HBS.out hI.gr.size)⟩)⟩)
            go_simp
          · obtain rfl := Option.some.inj (show some _ = some o from ho)
            obtain ⟨y3, hy3⟩ := hdep ⟨3, .data⟩ (by simp) rfl
            obtain ⟨u3, ⟨sa3, sn3, sc3⟩, rfl, hl3⟩ : ∃ u s, y3 = .tuple #[.agg (icells u s), .int .i64 d, .int .i64 (er : Int)] ∧ LN wcf (w.heap.size) u r.1 ∧ XN wcf (w.heap.size) s.v r.2 := hI.ok 3 y3 hy3
            have s3 := slotE (hNew 3 35 _ _ rfl rfl (by kernel_rfl) hy3)
            refine aVal rfl rfl (v := .tuple #[.agg (icells u3 ⟨sa3, sn3, sc3⟩), .int .i64 d, .int .i64 (er : Int)]) (w' := wcf) ?_ ⟨_, rfl, hI.val hn (by decide) (⟨u3, ⟨sa3, sn3, sc3⟩, rfl, hl3⟩)⟩
            go_simp
          · obtain rfl := Option.some.inj (show some _ = some o from ho)
            obtain ⟨y4, hy4⟩ := hdep ⟨4, .data⟩ (by simp) rfl
            obtain ⟨u4, ⟨sa4, sn4, sc4⟩, rfl, hl4⟩ : ∃ u s, y4 = .tuple #[.agg (icells u s), .int .i64 d, .int .i64 (er : Int)] ∧ LN wcf (w.heap.size) u r.1 ∧ XN wcf (w.heap.size) s.v r.2 := hI.ok 4 y4 hy4
            have s4 := slotE (hNew 4 31 _ _ rfl rfl (by kernel_rfl) hy4)
            refine aVal rfl rfl (v := .agg (icells u4 ⟨sa4, sn4, sc4⟩)) (w' := wcf) ?_ ⟨_, rfl, hI.val hn (by decide) (⟨u4, ⟨sa4, sn4, sc4⟩, rfl, hl4⟩)⟩
            go_simp
          · obtain rfl := Option.some.inj (show some _ = some o from ho)
            obtain ⟨y4, hy4⟩ := hdep ⟨4, .data⟩ (by simp) rfl
            obtain ⟨u4, ⟨sa4, sn4, sc4⟩, rfl, hl4⟩ : ∃ u s, y4 = .tuple #[.agg (icells u s), .int .i64 d, .int .i64 (er : Int)] ∧ LN wcf (w.heap.size) u r.1 ∧ XN wcf (w.heap.size) s.v r.2 := hI.ok 4 y4 hy4
            have s4 := slotE (hNew 4 31 _ _ rfl rfl (by kernel_rfl) hy4)
            refine aVal rfl rfl (v := .int .i64 d) (w' := wcf) ?_ ⟨_, rfl, hI.val hn (by decide) (rfl)⟩
            go_simp
          · obtain rfl := Option.some.inj (show some _ = some o from ho)
            obtain ⟨y4, hy4⟩ := hdep ⟨4, .data⟩ (by simp) rfl
            obtain ⟨u4, ⟨sa4, sn4, sc4⟩, rfl, hl4⟩ : ∃ u s, y4 = .tuple #[.agg (icells u s), .int .i64 d, .int .i64 (er : Int)] ∧ LN wcf (w.heap.size) u r.1 ∧ XN wcf (w.heap.size) s.v r.2 := hI.ok 4 y4 hy4
            have s4 := slotE (hNew 4 31 _ _ rfl rfl (by kernel_rfl) hy4)
            refine aVal rfl rfl (v := .int .i64 (er : Int)) (w' := wcf) ?_ ⟨_, rfl, hI.val hn (by decide) (rfl)⟩
            go_simp
          · obtain rfl := Option.some.inj (show some _ = some o from ho)
            refine aVal rfl rfl (v := .pointer (some ⟨wcf.heap.size, 0, none⟩)) (w' := wcf.alloc (.cells (zic) 35)) ?_ ⟨_, rfl, hI.new hn (by decide) rfl rfl (fun _ _ => trivial)⟩
            go_simp
          · obtain rfl := Option.some.inj (show some _ = some o from ho)
            obtain ⟨y8, hy8⟩ := hdep ⟨8, .data⟩ (by simp) rfl
            obtain ⟨P, rfl, hP1, hP2⟩ := hI.at_new (a := 8) (k := 9) (s := 5) (by decide) hn hy8
            have s8 := slotE (hNew 8 7 _ _ rfl rfl (by kernel_rfl) hy8)
            obtain ⟨y5, hy5⟩ := hdep ⟨5, .data⟩ (by simp) rfl
            obtain ⟨u5, ⟨sa5, sn5, sc5⟩, rfl, hl5⟩ : ∃ u s, y5 = .agg (icells u s) ∧ LN wcf (w.heap.size) u r.1 ∧ XN wcf (w.heap.size) s.v r.2 := hI.ok 5 y5 hy5
            have s5 := slotE (hNew 5 36 _ _ rfl rfl (by kernel_rfl) hy5)
            have z0 : wcf.cell? ⟨P, 0, none⟩ = some (.slice none 0 0) := by rw [cell_of_block hP2]; rfl
            have k0 := unfrozen_of_block hP2 0
            have z1 : wcf.cell? ⟨P, 1, none⟩ = some (.slice none 0 0) := by rw [cell_of_block hP2]; rfl
            have k1 := unfrozen_of_block hP2 1
            have z2 : wcf.cell? ⟨P, 2, none⟩ = some (.slice none 0 0) := by rw [cell_of_block hP2]; rfl
            have k2 := unfrozen_of_block hP2 2
            have z3 : wcf.cell? ⟨P, 3, none⟩ = some (.slice none 0 0) := by rw [cell_of_block hP2]; rfl
            have k3 := unfrozen_of_block hP2 3
            have z4 : wcf.cell? ⟨P, 4, none⟩ = some (.slice none 0 0) := by rw [cell_of_block hP2]; rfl
            have k4 := unfrozen_of_block hP2 4
            have z5 : wcf.cell? ⟨P, 5, none⟩ = some (.slice none 0 0) := by rw [cell_of_block hP2]; rfl
            have k5 := unfrozen_of_block hP2 5
            have z6 : wcf.cell? ⟨P, 6, none⟩ = some (.slice none 0 0) := by rw [cell_of_block hP2]; rfl
            have k6 := unfrozen_of_block hP2 6
            have z7 : wcf.cell? ⟨P, 7, none⟩ = some (.slice none 0 0) := by rw [cell_of_block hP2]; rfl
            have k7 := unfrozen_of_block hP2 7
            have z8 : wcf.cell? ⟨P, 8, none⟩ = some (.slice none 0 0) := by rw [cell_of_block hP2]; rfl
            have k8 := unfrozen_of_block hP2 8
            have hz := hP2
            refine aSkip rfl rfl (w' := putCells wcf P 0 (icells u5 ⟨sa5, sn5, sc5⟩ : Array Value).toList) ?_ ⟨_, rfl, hI.putA (a := 8) (k := 9) (s := 5) (c := icells u5 ⟨sa5, sn5, sc5⟩) (by decide) hn (by decide) (by decide) (by decide) hy8 hy5 rfl (fun _ => trivial)⟩
            clear hz hI hP2
            go_simp
            rfl
          · obtain rfl := Option.some.inj (show some _ = some o from ho)
            obtain ⟨y6, hy6⟩ := hdep ⟨6, .data⟩ (by simp) rfl
            obtain rfl : y6 = .int .i64 d := hI.ok 6 y6 hy6
            have s6 := slotE (hNew 6 37 _ _ rfl rfl (by kernel_rfl) hy6)
            refine aVal rfl rfl (v := .int .i64 d) (w' := wcf) ?_ ⟨_, rfl, hI.val hn (by decide) (rfl)⟩
            go_simp
          · obtain rfl := Option.some.inj (show some _ = some o from ho)
            obtain ⟨y7, hy7⟩ := hdep ⟨7, .data⟩ (by simp) rfl
            obtain rfl : y7 = .int .i64 (er : Int) := hI.ok 7 y7 hy7
            have s7 := slotE (hNew 7 38 _ _ rfl rfl (by kernel_rfl) hy7)
            refine aVal rfl rfl (v := .int .i64 (er : Int)) (w' := wcf) ?_ ⟨_, rfl, hI.val hn (by decide) (rfl)⟩
            go_simp
        · intro vals wcf hall hI
          refine NoPanic.normal ?_
          obtain ⟨y0, hy0⟩ := hall 0 (by decide)
          obtain ⟨y1, hy1⟩ := hall 1 (by decide)
          obtain ⟨y2, hy2⟩ := hall 2 (by decide)
          obtain ⟨y3, hy3⟩ := hall 3 (by decide)
          obtain ⟨y4, hy4⟩ := hall 4 (by decide)
          obtain ⟨y5, hy5⟩ := hall 5 (by decide)
          obtain ⟨y6, hy6⟩ := hall 6 (by decide)
          obtain ⟨y7, hy7⟩ := hall 7 (by decide)
          obtain ⟨y8, hy8⟩ := hall 8 (by decide)
          obtain ⟨y9, hy9⟩ := hall 9 (by decide)
          obtain ⟨y10, hy10⟩ := hall 10 (by decide)
          obtain ⟨y11, hy11⟩ := hall 11 (by decide)
          have hP := hI.at_full (a := 8) (k := 9) (s := 5) (by decide) hy9 hy5 hy8
          obtain ⟨uf, ⟨saf, snf, scf⟩, rfl, hlf⟩ : ∃ u s, y5 = .agg (icells u s) ∧ LN wcf (w.heap.size) u r.1 ∧ XN wcf (w.heap.size) s.v r.2 := hI.ok 5 y5 hy5
          obtain ⟨Pf, rfl, hPf, hbf⟩ := hP
          obtain rfl : y10 = .int .i64 d := hI.ok 10 y10 hy10
          obtain rfl : y11 = .int .i64 (er : Int) := hI.ok 11 y11 hy11
          have HBf : Hid (IBox wcf Pf uf ⟨saf, snf, scf⟩) := Lib.hid ⟨hbf⟩
          have HLf := Lib.hid hlf
          have HGf := Lib.hid hI.gr
          have HPf := Lib.hid hPf
          clear hbf hlf hPf
          simp only [putAll, putV, hy0, hy1, hy2, hy3, hy4, hy5, hy6, hy7, hy8, hy9, hy10, hy11]
          clear hI hall hy0 hy1 hy2 hy3 hy4 hy5 hy6 hy7 hy8 hy9 hy10 hy11
          simp only [Act.put, List.setIfInBounds_toArray, List.set_cons_zero, List.set_cons_succ]
          have HFr : Hid (er = 0 → FitI r ∧ recvR r t = (r, 0, 0)) := Lib.hid fun h => by
            have e1 : rcd s t = r := by unfold rcd; rw [← HRE.out]; exact if_pos h
            have e2 := recv_again (s := s) (t := t) (fun j hj => Nat.lt_of_le_of_lt (HLS.out j hj) (by decide)) HFT.out.1 (by rw [← HRE.out]; exact h)
            rw [← HRE.out] at e2
            exact ⟨by rw [← e1]; exact fitI_rcd HFI.out HFT.out, e2⟩
          by_cases h0 : er = 0
          · subst h0
            have HFI2 := Lib.hid (HFr.out rfl).1
            have hag := (HFr.out rfl).2
            have HIV2 := Lib.hid (fun w1 (g : Gr wcf w1) => (iv_of HLf.out.1 HLf.out.2).gr g)
            have HCP2 := Lib.hid (fun w1 (g : Gr wcf w1) => HCP.out w1 (HGf.out.trans g))
            have HRC2 := Lib.hid (fun w1 (g : Gr wcf w1) (x : Option Addr) (c : Nat) (hx : TOV w1 (.slice x nt c) t.ops) => receive_any uf saf snf scf r.1 r.2 t x nt c w1 (HIV2.out w1 g).lv (HIV2.out w1 g).xv (HIV2.out w1 g).ln hx HFI2.out.fc HFI2.out.ft HFT.out (by rw [(HIV2.out w1 g).ln]; exact HFI2.out.le))
            have e3 : recvR (r.1, r.2) t = (r, 0, 0) := hag
            rw [e3] at HRC2
            have HBS2 : Hid (w.heap.size ≤ wcf.heap.size) := Lib.hid (Nat.le_trans HBS.out HGf.out.size)
            clear hag e3
            go_upto_region 11 with (fail)
            refine wp_region_noPanic ?_
            refine iRegionA (RI btI wcf (fun k => ((SIr (w.heap.size) uf ⟨saf, snf, scf⟩ t (.slice At nt ct) nt r 0 0) k).P) [(8, 9, 5)] (fun _ => 35) (fun _ => zic)) (by kernel_rfl) (by kernel_rfl) (ri_start (fun k y wA wB => ((SIr (w.heap.size) uf ⟨saf, snf, scf⟩ t (.slice At nt ct) nt r 0 0) k).st y wA wB) (Gr.refl _)) ?_ ?_
            · intro i o ho vals wcg A hI hn hdep hOld hNew
              have hi : i < 12 := (List.getElem?_eq_some_iff.1 ho).1
              have q := ((HBf.out.gr hI.gr)).all
              have b0 := q.1
              have b1 := q.2.1
              have b2 := q.2.2.1
              have b3 := q.2.2.2.1
              have b4 := q.2.2.2.2.1
              have b5 := q.2.2.2.2.2.1
              have b6 := q.2.2.2.2.2.2.1
              have b7 := q.2.2.2.2.2.2.2.1
              have b8 := q.2.2.2.2.2.2.2.2
              obtain ⟨x0, x1, x2, x3, x4, x5, x6, x7, x8, x9, x10, x11⟩ := HX.out.gr ((HGW.out.trans HGf.out).trans hI.gr)
              clear q
              have eo7 : A.tmps[7]?.getD undef = .pointer (some ⟨Pf, 0, none⟩) := slotE (hOld 7 (by kernel_rfl))
              have eo3 : A.tmps[3]?.getD undef = .pointer (some ⟨w.heap.size, 0, none⟩) := slotE (hOld 3 (by kernel_rfl))
              obtain rfl | rfl | rfl | rfl | rfl | rfl | rfl | rfl | rfl | rfl | rfl | rfl : i = 0 ∨ i = 1 ∨ i = 2 ∨ i = 3 ∨ i = 4 ∨ i = 5 ∨ i = 6 ∨ i = 7 ∨ i = 8 ∨ i = 9 ∨ i = 10 ∨ i = 11 := by omega
              · obtain rfl := Option.some.inj (show some _ = some o from ho)
                refine aVal rfl rfl (v := .agg (icells uf ⟨saf, snf, scf⟩)) (w' := wcg) ?_ ⟨_, rfl, hI.val hn (by decide) (rfl)⟩
                go_simp
              · obtain rfl := Option.some.inj (show some _ = some o from ho)
                refine aVal rfl rfl (v := .agg (tcs t (.slice At nt ct))) (w' := wcg) ?_ ⟨_, rfl, hI.val hn (by decide) (rfl)⟩
                go_simp
              · obtain rfl := Option.some.inj (show some _ = some o from ho)
                obtain ⟨y1, hy1⟩ := hdep ⟨1, .data⟩ (by simp) rfl
                obtain rfl : y1 = .agg (tcs t (.slice At nt ct)) := hI.ok 1 y1 hy1
                have s1 := slotE (hNew 1 45 _ _ rfl rfl (by kernel_rfl) hy1)
                refine aCall rfl rfl (w1 := wcg) ?_ ((HCP2.out wcg hI.gr).mono fun e w' ⟨ta, tc, he, ho, hg⟩ => ⟨_, he, _, rfl, (hI.next hg).val hn (by decide) (⟨ta, tc, rfl, ho.le (Nat.le_trans HBS2.out hI.gr.size)⟩)⟩)
                go_simp
              · obtain rfl := Option.some.inj (show some _ = some o from ho)
                obtain ⟨y0, hy0⟩ := hdep ⟨0, .data⟩ (by simp) rfl
                obtain rfl : y0 = .agg (icells uf ⟨saf, snf, scf⟩) := hI.ok 0 y0 hy0
                have s0 := slotE (hNew 0 44 _ _ rfl rfl (by kernel_rfl) hy0)
                obtain ⟨y2, hy2⟩ := hdep ⟨2, .data⟩ (by simp) rfl
                obtain ⟨ta2, tc2, rfl, hl2⟩ : ∃ x c, y2 = .agg (tcs t (.slice x nt c)) ∧ TOO wcg (w.heap.size) (.slice x nt c) t.ops := hI.ok 2 y2 hy2
                have s2 := slotE (hNew 2 46 _ _ rfl rfl (by kernel_rfl) hy2)
                refine aCall rfl rfl (w1 := wcg) ?_ ((HRC2.out wcg hI.gr ta2 tc2 hl2.tov).mono fun e w' ⟨ur, sr, he, h1, h2, hg⟩ => ⟨_, he, _, rfl, (hI.next hg).val hn (by decide) (⟨ur, sr, rfl, h1.le (Nat.le_trans HBS2.out hI.gr.size), h2.le (Nat.le_trans HBS2.out hI.gr.size)⟩)⟩)
                go_simp
              · obtain rfl := Option.some.inj (show some _ = some o from ho)
                obtain ⟨y3, hy3⟩ := hdep ⟨3, .data⟩ (by simp) rfl
                obtain ⟨u3, ⟨sa3, sn3, sc3⟩, rfl, hl3⟩ : ∃ u s, y3 = .tuple #[.agg (icells u s), .int .i64 0, .int .i64 0] ∧ LN wcg (w.heap.size) u r.1 ∧ XN wcg (w.heap.size) s.v r.2 := hI.ok 3 y3 hy3
                have s3 := slotE (hNew 3 47 _ _ rfl rfl (by kernel_rfl) hy3)
                refine aVal rfl rfl (v := .tuple #[.agg (icells u3 ⟨sa3, sn3, sc3⟩), .int .i64 0, .int .i64 0]) (w' := wcg) ?_ ⟨_, rfl, hI.val hn (by decide) (⟨u3, ⟨sa3, sn3, sc3⟩, rfl, hl3⟩)⟩
                go_simp
              · obtain rfl := Option.some.inj (show some _ = some o from ho)
                obtain ⟨y4, hy4⟩ := hdep ⟨4, .data⟩ (by simp) rfl
                obtain ⟨u4, ⟨sa4, sn4, sc4⟩, rfl, hl4⟩ : ∃ u s, y4 = .tuple #[.agg (icells u s), .int .i64 0, .int .i64 0] ∧ LN wcg (w.heap.size) u r.1 ∧ XN wcg (w.heap.size) s.v r.2 := hI.ok 4 y4 hy4
                have s4 := slotE (hNew 4 43 _ _ rfl rfl (by kernel_rfl) hy4)
                refine aVal rfl rfl (v := .agg (icells u4 ⟨sa4, sn4, sc4⟩)) (w' := wcg) ?_ ⟨_, rfl, hI.val hn (by decide) (⟨u4, ⟨sa4, sn4, sc4⟩, rfl, hl4⟩)⟩
                go_simp
              · obtain rfl := Option.some.inj (show some _ = some o from ho)
                obtain ⟨y4, hy4⟩ := hdep ⟨4, .data⟩ (by simp) rfl
                obtain ⟨u4, ⟨sa4, sn4, sc4⟩, rfl, hl4⟩ : ∃ u s, y4 = .tuple #[.agg (icells u s), .int .i64 0, .int .i64 0] ∧ LN wcg (w.heap.size) u r.1 ∧ XN wcg (w.heap.size) s.v r.2 := hI.ok 4 y4 hy4
                have s4 := slotE (hNew 4 43 _ _ rfl rfl (by kernel_rfl) hy4)
                refine aVal rfl rfl (v := .int .i64 0) (w' := wcg) ?_ ⟨_, rfl, hI.val hn (by decide) (rfl)⟩
                go_simp
              · obtain rfl := Option.some.inj (show some _ = some o from ho)
                obtain ⟨y4, hy4⟩ := hdep ⟨4, .data⟩ (by simp) rfl
                obtain ⟨u4, ⟨sa4, sn4, sc4⟩, rfl, hl4⟩ : ∃ u s, y4 = .tuple #[.agg (icells u s), .int .i64 0, .int .i64 0] ∧ LN wcg (w.heap.size) u r.1 ∧ XN wcg (w.heap.size) s.v r.2 := hI.ok 4 y4 hy4
                have s4 := slotE (hNew 4 43 _ _ rfl rfl (by kernel_rfl) hy4)
                refine aVal rfl rfl (v := .int .i64 0) (w' := wcg) ?_ ⟨_, rfl, hI.val hn (by decide) (rfl)⟩
                go_simp
              · obtain rfl := Option.some.inj (show some _ = some o from ho)
                refine aVal rfl rfl (v := .pointer (some ⟨wcg.heap.size, 0, none⟩)) (w' := wcg.alloc (.cells (zic) 35)) ?_ ⟨_, rfl, hI.new hn (by decide) rfl rfl (fun _ _ => trivial)⟩
                go_simp
              · obtain rfl := Option.some.inj (show some _ = some o from ho)
                obtain ⟨y8, hy8⟩ := hdep ⟨8, .data⟩ (by simp) rfl
                obtain ⟨P, rfl, hP1, hP2⟩ := hI.at_new (a := 8) (k := 9) (s := 5) (by decide) hn hy8
                have s8 := slotE (hNew 8 10 _ _ rfl rfl (by kernel_rfl) hy8)
                obtain ⟨y5, hy5⟩ := hdep ⟨5, .data⟩ (by simp) rfl
                obtain ⟨u5, ⟨sa5, sn5, sc5⟩, rfl, hl5⟩ : ∃ u s, y5 = .agg (icells u s) ∧ LN wcg (w.heap.size) u r.1 ∧ XN wcg (w.heap.size) s.v r.2 := hI.ok 5 y5 hy5
                have s5 := slotE (hNew 5 48 _ _ rfl rfl (by kernel_rfl) hy5)
                have z0 : wcg.cell? ⟨P, 0, none⟩ = some (.slice none 0 0) := by rw [cell_of_block hP2]; rfl
                have k0 := unfrozen_of_block hP2 0
                have z1 : wcg.cell? ⟨P, 1, none⟩ = some (.slice none 0 0) := by rw [cell_of_block hP2]; rfl
                have k1 := unfrozen_of_block hP2 1
                have z2 : wcg.cell? ⟨P, 2, none⟩ = some (.slice none 0 0) := by rw [cell_of_block hP2]; rfl
                have k2 := unfrozen_of_block hP2 2
                have z3 : wcg.cell? ⟨P, 3, none⟩ = some (.slice none 0 0) := by rw [cell_of_block hP2]; rfl
                have k3 := unfrozen_of_block hP2 3
                have z4 : wcg.cell? ⟨P, 4, none⟩ = some (.slice none 0 0) := by rw [cell_of_block hP2]; rfl
                have k4 := unfrozen_of_block hP2 4
                have z5 : wcg.cell? ⟨P, 5, none⟩ = some (.slice none 0 0) := by rw [cell_of_block hP2]; rfl
                have k5 := unfrozen_of_block hP2 5
                have z6 : wcg.cell? ⟨P, 6, none⟩ = some (.slice none 0 0) := by rw [cell_of_block hP2]; rfl
                have k6 := unfrozen_of_block hP2 6
                have z7 : wcg.cell? ⟨P, 7, none⟩ = some (.slice none 0 0) := by rw [cell_of_block hP2]; rfl
                have k7 := unfrozen_of_block hP2 7
                have z8 : wcg.cell? ⟨P, 8, none⟩ = some (.slice none 0 0) := by rw [cell_of_block hP2]; rfl
                have k8 := unfrozen_of_block hP2 8
                have hz := hP2
                refine aSkip rfl rfl (w' := putCells wcg P 0 (icells u5 ⟨sa5, sn5, sc5⟩ : Array Value).toList) ?_ ⟨_, rfl, hI.putA (a := 8) (k := 9) (s := 5) (c := icells u5 ⟨sa5, sn5, sc5⟩) (by decide) hn (by decide) (by decide) (by decide) hy8 hy5 rfl (fun _ => trivial)⟩
                clear hz hI hP2
                go_simp
                rfl
              · obtain rfl := Option.some.inj (show some _ = some o from ho)
                obtain ⟨y6, hy6⟩ := hdep ⟨6, .data⟩ (by simp) rfl
                obtain rfl : y6 = .int .i64 0 := hI.ok 6 y6 hy6
                have s6 := slotE (hNew 6 49 _ _ rfl rfl (by kernel_rfl) hy6)
                refine aVal rfl rfl (v := .int .i64 0) (w' := wcg) ?_ ⟨_, rfl, hI.val hn (by decide) (rfl)⟩
                go_simp
              · obtain rfl := Option.some.inj (show some _ = some o from ho)
                obtain ⟨y7, hy7⟩ := hdep ⟨7, .data⟩ (by simp) rfl
                obtain rfl : y7 = .int .i64 0 := hI.ok 7 y7 hy7
                have s7 := slotE (hNew 7 50 _ _ rfl rfl (by kernel_rfl) hy7)
                refine aVal rfl rfl (v := .int .i64 0) (w' := wcg) ?_ ⟨_, rfl, hI.val hn (by decide) (rfl)⟩
                go_simp
            · intro vals wcg hall hI
              refine NoPanic.normal ?_
              obtain ⟨y0, hy0⟩ := hall 0 (by decide)
              obtain ⟨y1, hy1⟩ := hall 1 (by decide)
              obtain ⟨y2, hy2⟩ := hall 2 (by decide)
              obtain ⟨y3, hy3⟩ := hall 3 (by decide)
              obtain ⟨y4, hy4⟩ := hall 4 (by decide)
              obtain ⟨y5, hy5⟩ := hall 5 (by decide)
              obtain ⟨y6, hy6⟩ := hall 6 (by decide)
              obtain ⟨y7, hy7⟩ := hall 7 (by decide)
              obtain ⟨y8, hy8⟩ := hall 8 (by decide)
              obtain ⟨y9, hy9⟩ := hall 9 (by decide)
              obtain ⟨y10, hy10⟩ := hall 10 (by decide)
              obtain ⟨y11, hy11⟩ := hall 11 (by decide)
              have hP := hI.at_full (a := 8) (k := 9) (s := 5) (by decide) hy9 hy5 hy8
              obtain ⟨ug, ⟨sag, sng, scg⟩, rfl, hlg⟩ : ∃ u s, y5 = .agg (icells u s) ∧ LN wcg (w.heap.size) u r.1 ∧ XN wcg (w.heap.size) s.v r.2 := hI.ok 5 y5 hy5
              obtain ⟨Pg, rfl, hPg, hbg⟩ := hP
              obtain rfl : y10 = .int .i64 0 := hI.ok 10 y10 hy10
              obtain rfl : y11 = .int .i64 0 := hI.ok 11 y11 hy11
              have HBg : Hid (IBox wcg Pg ug ⟨sag, sng, scg⟩) := Lib.hid ⟨hbg⟩
              have HLg := Lib.hid hlg
              have HGg := Lib.hid hI.gr
              have HPg := Lib.hid hPg
              clear hbg hlg hPg
              simp only [putAll, putV, hy0, hy1, hy2, hy3, hy4, hy5, hy6, hy7, hy8, hy9, hy10, hy11]
              clear hI hall hy0 hy1 hy2 hy3 hy4 hy5 hy6 hy7 hy8 hy9 hy10 hy11
              simp only [Act.put, List.setIfInBounds_toArray, List.set_cons_zero, List.set_cons_succ]
              have HSM := Lib.hid (rsame13_any ug uf sag saf sng scg snf scf r r wcg (iv_of HLg.out.1 HLg.out.2) (HIV2.out wcg HGg.out))
              rw [sameIB_self] at HSM
              obtain ⟨q0, q1, q2, q3, q4, q5, q6, q7, q8⟩ := HBg.out.all
              obtain ⟨p0, p1, p2, p3, p4, p5, p6, p7, p8⟩ := (HBf.out.gr HGg.out).all
              go_wp2_with fail
              refine HSM.out.mono ?_
              rintro e wz ⟨rfl, gz⟩
              have HGZ := Lib.hid gz
              clear gz q0 q1 q2 q3 q4 q5 q6 q7 q8 p0 p1 p2 p3 p4 p5 p6 p7 p8
              go_wp2_with fail
              go_ret
              exact ⟨rfl, ((HIN.out.gr.trans HGf.out).trans HGg.out).trans HGZ.out⟩
          · have hd := HD0.out h0
            subst hd
            have hb0 : ((er : Int) != 0) = true := by simpa using h0
            have hd0 : ¬ (er : Int) = 0 := by omega
            clear h0
            go_wp2_with fail
            go_ret
            exact ⟨rfl, HIN.out.gr.trans HGf.out⟩
      · clear hgo hdc
        go_upto_region 8 with (fail)
        refine wp_region_noPanic ?_
        refine iRegionA (RI btI wr (fun k => ((SIr (w.heap.size) u1 ⟨A1, n1, c1⟩ t (.slice At nt ct) nt r d er) k).P) [(8, 9, 5)] (fun _ => 35) (fun _ => zic)) (by kernel_rfl) (by kernel_rfl) (ri_start (fun k y wA wB => ((SIr (w.heap.size) u1 ⟨A1, n1, c1⟩ t (.slice At nt ct) nt r d er) k).st y wA wB) (Gr.refl _)) ?_ ?_
        · intro i o ho vals wcf A hI hn hdep hOld hNew
          have hi : i < 12 := (List.getElem?_eq_some_iff.1 ho).1
          have q := ((HIN.out.bx.gr hI.gr)).all
          have b0 := q.1
          have b1 := q.2.1
          have b2 := q.2.2.1
          have b3 := q.2.2.2.1
          have b4 := q.2.2.2.2.1
          have b5 := q.2.2.2.2.2.1
          have b6 := q.2.2.2.2.2.2.1
          have b7 := q.2.2.2.2.2.2.2.1
          have b8 := q.2.2.2.2.2.2.2.2
          obtain ⟨x0, x1, x2, x3, x4, x5, x6, x7, x8, x9, x10, x11⟩ := HX.out.gr ((HGW.out).trans hI.gr)
          clear q
          have eo5 : A.tmps[5]?.getD undef = .pointer (some ⟨b, 0, none⟩) := slotE (hOld 5 (by kernel_rfl))
          have eo3 : A.tmps[3]?.getD undef = .pointer (some ⟨w.heap.size, 0, none⟩) := slotE (hOld 3 (by kernel_rfl))
          obtain rfl | rfl | rfl | rfl | rfl | rfl | rfl | rfl | rfl | rfl | rfl | rfl : i = 0 ∨ i = 1 ∨ i = 2 ∨ i = 3 ∨ i = 4 ∨ i = 5 ∨ i = 6 ∨ i = 7 ∨ i = 8 ∨ i = 9 ∨ i = 10 ∨ i = 11 := by omega
          · obtain rfl := Option.some.inj (show some _ = some o from ho)
            refine aVal rfl rfl (v := .agg (icells u1 ⟨A1, n1, c1⟩)) (w' := wcf) ?_ ⟨_, rfl, hI.val hn (by decide) (rfl)⟩
            go_simp
          · obtain rfl := Option.some.inj (show some _ = some o from ho)
            refine aVal rfl rfl (v := .agg (tcs t (.slice At nt ct))) (w' := wcf) ?_ ⟨_, rfl, hI.val hn (by decide) (rfl)⟩
            go_simp
          · obtain rfl := Option.some.inj (show some _ = some o from ho)
            obtain ⟨y1, hy1⟩ := hdep ⟨1, .data⟩ (by simp) rfl
            obtain rfl : y1 = .agg (tcs t (.slice At nt ct)) := hI.ok 1 y1 hy1
            have s1 := slotE (hNew 1 33 _ _ rfl rfl (by kernel_rfl) hy1)
            refine aCall rfl rfl (w1 := wcf) ?_ ((HCP.out wcf hI.gr).mono fun e w' ⟨ta, tc, he, ho, hg⟩ => ⟨_, he, _, rfl, (hI.next hg).val hn (by decide) (⟨ta, tc, rfl, ho.le (Nat.le_trans HBS.out hI.gr.size)⟩)⟩)
            go_simp
          · obtain rfl := Option.some.inj (show some _ = some o from ho)
            obtain ⟨y0, hy0⟩ := hdep ⟨0, .data⟩ (by simp) rfl
            obtain rfl : y0 = .agg (icells u1 ⟨A1, n1, c1⟩) := hI.ok 0 y0 hy0
            have s0 := slotE (hNew 0 32 _ _ rfl rfl (by kernel_rfl) hy0)
            obtain ⟨y2, hy2⟩ := hdep ⟨2, .data⟩ (by simp) rfl
            obtain ⟨ta2, tc2, rfl, hl2⟩ : ∃ x c, y2 = .agg (tcs t (.slice x nt c)) ∧ TOO wcf (w.heap.size) (.slice x nt c) t.ops := hI.ok 2 y2 hy2
            have s2 := slotE (hNew 2 34 _ _ rfl rfl (by kernel_rfl) hy2)
            refine aCall rfl rfl (w1 := wcf) ?_ ((HRC.out wcf hI.gr ta2 tc2 hl2.tov).mono fun e w' ⟨ur, sr, he, h1, h2, hg⟩ => ⟨_, he, _, rfl, (hI.next hg).val hn (by decide) (⟨ur, sr, rfl, h1.le (Nat.le_trans HBS.out hI.gr.size), h2.le (Nat.le_trans HBS.out hI.gr.size)⟩)⟩)
            go_simp
          · obtain rfl := Option.some.inj (show some _ = some o from ho)
            obtain ⟨y3, hy3⟩ := hdep ⟨3, .data⟩ (by simp) rfl
            obtain ⟨u3, ⟨sa3, sn3, sc3⟩, rfl, hl3⟩ : ∃ u s, y3 = .tuple #[.agg (icells u s), .int .i64 d, .int .i64 (er : Int)] ∧ LN wcf (w.heap.size) u r.1 ∧ XN wcf (w.heap.size) s.v r.2 := hI.ok 3 y3 hy3
            have s3 := slotE (hNew 3 35 _ _ rfl rfl (by kernel_rfl) hy3)
            refine aVal rfl rfl (v := .tuple #[.agg (icells u3 ⟨sa3, sn3, sc3⟩), .int .i64 d, .int .i64 (er : Int)]) (w' := wcf) ?_ ⟨_, rfl, hI.val hn (by decide) (⟨u3, ⟨sa3, sn3, sc3⟩, rfl, hl3⟩)⟩
            go_simp
          · obtain rfl := Option.some.inj (show some _ = some o from ho)
            obtain ⟨y4, hy4⟩ := hdep ⟨4, .data⟩ (by simp) rfl
            obtain ⟨u4, ⟨sa4, sn4, sc4⟩, rfl, hl4⟩ : ∃ u s, y4 = .tuple #[.agg (icells u s), .int .i64 d, .int .i64 (er : Int)] ∧ LN wcf (w.heap.size) u r.1 ∧ XN wcf (w.heap.size) s.v r.2 := hI.ok 4 y4 hy4
            have s4 := slotE (hNew 4 31 _ _ rfl rfl (by kernel_rfl) hy4)
            refine aVal rfl rfl (v := .agg (icells u4 ⟨sa4, sn4, sc4⟩)) (w' := wcf) ?_ ⟨_, rfl, hI.val hn (by decide) (⟨u4, ⟨sa4, sn4, sc4⟩, rfl, hl4⟩)⟩
            go_simp
          · obtain rfl := Option.some.inj (show some _ = some o from ho)
            obtain ⟨y4, hy4⟩ := hdep ⟨4, .data⟩ (by simp) rfl
            obtain ⟨u4, ⟨sa4, sn4, sc4⟩, rfl, hl4⟩ : ∃ u s, y4 = .tuple #[.agg (icells u s), .int .i64 d, .int .i64 (er : Int)] ∧ LN wcf (w.heap.size) u r.1 ∧ XN wcf (w.heap.size) s.v r.2 := hI.ok 4 y4 hy4
            have s4 := slotE (hNew 4 31 _ _ rfl rfl (by kernel_rfl) hy4)
            refine aVal rfl rfl (v := .int .i64 d) (w' := wcf) ?_ ⟨_, rfl, hI.val hn (by decide) (rfl)⟩
            go_simp
          · obtain rfl := Option.some.inj (show some _ = some o from ho)
            obtain ⟨y4, hy4⟩ := hdep ⟨4, .data⟩ (by simp) rfl
            obtain ⟨u4, ⟨sa4, sn4, sc4⟩, rfl, hl4⟩ : ∃ u s, y4 = .tuple #[.agg (icells u s), .int .i64 d, .int .i64 (er : Int)] ∧ LN wcf (w.heap.size) u r.1 ∧ XN wcf (w.heap.size) s.v r.2 := hI.ok 4 y4 hy4
            have s4 := slotE (hNew 4 31 _ _ rfl rfl (by kernel_rfl) hy4)
            refine aVal rfl rfl (v := .int .i64 (er : Int)) (w' := wcf) ?_ ⟨_, rfl, hI.val hn (by decide) (rfl)⟩
            go_simp
          · obtain rfl := Option.some.inj (show some _ = some o from ho)
            refine aVal rfl rfl (v := .pointer (some ⟨wcf.heap.size, 0, none⟩)) (w' := wcf.alloc (.cells (zic) 35)) ?_ ⟨_, rfl, hI.new hn (by decide) rfl rfl (fun _ _ => trivial)⟩
            go_simp
          · obtain rfl := Option.some.inj (show some _ = some o from ho)
            obtain ⟨y8, hy8⟩ := hdep ⟨8, .data⟩ (by simp) rfl
            obtain ⟨P, rfl, hP1, hP2⟩ := hI.at_new (a := 8) (k := 9) (s := 5) (by decide) hn hy8
            have s8 := slotE (hNew 8 7 _ _ rfl rfl (by kernel_rfl) hy8)
            obtain ⟨y5, hy5⟩ := hdep ⟨5, .data⟩ (by simp) rfl
            obtain ⟨u5, ⟨sa5, sn5, sc5⟩, rfl, hl5⟩ : ∃ u s, y5 = .agg (icells u s) ∧ LN wcf (w.heap.size) u r.1 ∧ XN wcf (w.heap.size) s.v r.2 := hI.ok 5 y5 hy5
            have s5 := slotE (hNew 5 36 _ _ rfl rfl (by kernel_rfl) hy5)
            have z0 : wcf.cell? ⟨P, 0, none⟩ = some (.slice none 0 0) := by rw [cell_of_block hP2]; rfl
            have k0 := unfrozen_of_block hP2 0
            have z1 : wcf.cell? ⟨P, 1, none⟩ = some (.slice none 0 0) := by rw [cell_of_block hP2]; rfl
            have k1 := unfrozen_of_block hP2 1
            have z2 : wcf.cell? ⟨P, 2, none⟩ = some (.slice none 0 0) := by rw [cell_of_block hP2]; rfl
            have k2 := unfrozen_of_block hP2 2
            have z3 : wcf.cell? ⟨P, 3, none⟩ = some (.slice none 0 0) := by rw [cell_of_block hP2]; rfl
            have k3 := unfrozen_of_block hP2 3
            have z4 : wcf.cell? ⟨P, 4, none⟩ = some (.slice none 0 0) := by rw [cell_of_block hP2]; rfl
            have k4 := unfrozen_of_block hP2 4
            have z5 : wcf.cell? ⟨P, 5, none⟩ = some (.slice none 0 0) := by rw [cell_of_block hP2]; rfl
            have k5 := unfrozen_of_block hP2 5
            have z6 : wcf.cell? ⟨P, 6, none⟩ = some (.slice none 0 0) := by rw [cell_of_block hP2]; rfl
            have k6 := unfrozen_of_block hP2 6
            have z7 : wcf.cell? ⟨P, 7, none⟩ = some (.slice none 0 0) := by rw [cell_of_block hP2]; rfl
            have k7 := unfrozen_of_block hP2 7
            have z8 : wcf.cell? ⟨P, 8, none⟩ = some (.slice none 0 0) := by rw [cell_of_block hP2]; rfl
            have k8 := unfrozen_of_block hP2 8
            have hz := hP2
            refine aSkip rfl rfl (w' := putCells wcf P 0 (icells u5 ⟨sa5, sn5, sc5⟩ : Array Value).toList) ?_ ⟨_, rfl, hI.putA (a := 8) (k := 9) (s := 5) (c := icells u5 ⟨sa5, sn5, sc5⟩) (by decide) hn (by decide) (by decide) (by decide) hy8 hy5 rfl (fun _ => trivial)⟩
            clear hz hI hP2
            go_simp
            rfl
          · obtain rfl := Option.some.inj (show some _ = some o from ho)
            obtain ⟨y6, hy6⟩ := hdep ⟨6, .data⟩ (by simp) rfl
            obtain rfl : y6 = .int .i64 d := hI.ok 6 y6 hy6
            have s6 := slotE (hNew 6 37 _ _ rfl rfl (by kernel_rfl) hy6)
            refine aVal rfl rfl (v := .int .i64 d) (w' := wcf) ?_ ⟨_, rfl, hI.val hn (by decide) (rfl)⟩
            go_simp
          · obtain rfl := Option.some.inj (show some _ = some o from ho)
            obtain ⟨y7, hy7⟩ := hdep ⟨7, .data⟩ (by simp) rfl
            obtain rfl : y7 = .int .i64 (er : Int) := hI.ok 7 y7 hy7
            have s7 := slotE (hNew 7 38 _ _ rfl rfl (by kernel_rfl) hy7)
            refine aVal rfl rfl (v := .int .i64 (er : Int)) (w' := wcf) ?_ ⟨_, rfl, hI.val hn (by decide) (rfl)⟩
            go_simp
        · intro vals wcf hall hI
          refine NoPanic.normal ?_
          obtain ⟨y0, hy0⟩ := hall 0 (by decide)
          obtain ⟨y1, hy1⟩ := hall 1 (by decide)
          obtain ⟨y2, hy2⟩ := hall 2 (by decide)
          obtain ⟨y3, hy3⟩ := hall 3 (by decide)
          obtain ⟨y4, hy4⟩ := hall 4 (by decide)
          obtain ⟨y5, hy5⟩ := hall 5 (by decide)
          obtain ⟨y6, hy6⟩ := hall 6 (by decide)
          obtain ⟨y7, hy7⟩ := hall 7 (by decide)
          obtain ⟨y8, hy8⟩ := hall 8 (by decide)
          obtain ⟨y9, hy9⟩ := hall 9 (by decide)
          obtain ⟨y10, hy10⟩ := hall 10 (by decide)
          obtain ⟨y11, hy11⟩ := hall 11 (by decide)
          have hP := hI.at_full (a := 8) (k := 9) (s := 5) (by decide) hy9 hy5 hy8
          obtain ⟨uf, ⟨saf, snf, scf⟩, rfl, hlf⟩ : ∃ u s, y5 = .agg (icells u s) ∧ LN wcf (w.heap.size) u r.1 ∧ XN wcf (w.heap.size) s.v r.2 := hI.ok 5 y5 hy5
          obtain ⟨Pf, rfl, hPf, hbf⟩ := hP
          obtain rfl : y10 = .int .i64 d := hI.ok 10 y10 hy10
          obtain rfl : y11 = .int .i64 (er : Int) := hI.ok 11 y11 hy11
          have HBf : Hid (IBox wcf Pf uf ⟨saf, snf, scf⟩) := Lib.hid ⟨hbf⟩
          have HLf := Lib.hid hlf
          have HGf := Lib.hid hI.gr
          have HPf := Lib.hid hPf
          clear hbf hlf hPf
          simp only [putAll, putV, hy0, hy1, hy2, hy3, hy4, hy5, hy6, hy7, hy8, hy9, hy10, hy11]
          clear hI hall hy0 hy1 hy2 hy3 hy4 hy5 hy6 hy7 hy8 hy9 hy10 hy11
          simp only [Act.put, List.setIfInBounds_toArray, List.set_cons_zero, List.set_cons_succ]
          have HFr : Hid (er = 0 → FitI r ∧ recvR r t = (r, 0, 0)) := Lib.hid fun h => by
            have e1 : rcd s t = r := by unfold rcd; rw [← HRE.out]; exact if_pos h
            have e2 := recv_again (s := s) (t := t) (fun j hj => Nat.lt_of_le_of_lt (HLS.out j hj) (by decide)) HFT.out.1 (by rw [← HRE.out]; exact h)
            rw [← HRE.out] at e2
            exact ⟨by rw [← e1]; exact fitI_rcd HFI.out HFT.out, e2⟩
          by_cases h0 : er = 0
          · subst h0
            have HFI2 := Lib.hid (HFr.out rfl).1
            have hag := (HFr.out rfl).2
            have HIV2 := Lib.hid (fun w1 (g : Gr wcf w1) => (iv_of HLf.out.1 HLf.out.2).gr g)
            have HCP2 := Lib.hid (fun w1 (g : Gr wcf w1) => HCP.out w1 (HGf.out.trans g))
            have HRC2 := Lib.hid (fun w1 (g : Gr wcf w1) (x : Option Addr) (c : Nat) (hx : TOV w1 (.slice x nt c) t.ops) => receive_any uf saf snf scf r.1 r.2 t x nt c w1 (HIV2.out w1 g).lv (HIV2.out w1 g).xv (HIV2.out w1 g).ln hx HFI2.out.fc HFI2.out.ft HFT.out (by rw [(HIV2.out w1 g).ln]; exact HFI2.out.le))
            have e3 : recvR (r.1, r.2) t = (r, 0, 0) := hag
            rw [e3] at HRC2
            have HBS2 : Hid (w.heap.size ≤ wcf.heap.size) := Lib.hid (Nat.le_trans HBS.out HGf.out.size)
            clear hag e3
            go_upto_region 11 with (fail)
            refine wp_region_noPanic ?_
            refine iRegionA (RI btI wcf (fun k => ((SIr (w.heap.size) uf ⟨saf, snf, scf⟩ t (.slice At nt ct) nt r 0 0) k).P) [(8, 9, 5)] (fun _ => 35) (fun _ => zic)) (by kernel_rfl) (by kernel_rfl) (ri_start (fun k y wA wB => ((SIr (w.heap.size) uf ⟨saf, snf, scf⟩ t (.slice At nt ct) nt r 0 0) k).st y wA wB) (Gr.refl _)) ?_ ?_
            · intro i o ho vals wcg A hI hn hdep hOld hNew
              have hi : i < 12 := (List.getElem?_eq_some_iff.1 ho).1
              have q := ((HBf.out.gr hI.gr)).all
              have b0 := q.1
              have b1 := q.2.1
              have b2 := q.2.2.1
              have b3 := q.2.2.2.1
              have b4 := q.2.2.2.2.1
              have b5 := q.2.2.2.2.2.1
              have b6 := q.2.2.2.2.2.2.1
              have b7 := q.2.2.2.2.2.2.2.1
              have b8 := q.2.2.2.2.2.2.2.2
              obtain ⟨x0, x1, x2, x3, x4, x5, x6, x7, x8, x9, x10, x11⟩ := HX.out.gr ((HGW.out.trans HGf.out).trans hI.gr)
              clear q
              have eo7 : A.tmps[7]?.getD undef = .pointer (some ⟨Pf, 0, none⟩) := slotE (hOld 7 (by kernel_rfl))
              have eo3 : A.tmps[3]?.getD undef = .pointer (some ⟨w.heap.size, 0, none⟩) := slotE (hOld 3 (by kernel_rfl))
              obtain rfl | rfl | rfl | rfl | rfl | rfl | rfl | rfl | rfl | rfl | rfl | rfl : i = 0 ∨ i = 1 ∨ i = 2 ∨ i = 3 ∨ i = 4 ∨ i = 5 ∨ i = 6 ∨ i = 7 ∨ i = 8 ∨ i = 9 ∨ i = 10 ∨ i = 11 := by omega
              · obtain rfl := Option.some.inj (show some _ = some o from ho)
                refine aVal rfl rfl (v := .agg (icells uf ⟨saf, snf, scf⟩)) (w' := wcg) ?_ ⟨_, rfl, hI.val hn (by decide) (rfl)⟩
                go_simp
              · obtain rfl := Option.some.inj (show some _ = some o from ho)
                refine aVal rfl rfl (v := .agg (tcs t (.slice At nt ct))) (w' := wcg) ?_ ⟨_, rfl, hI.val hn (by decide) (rfl)⟩
                go_simp
              · obtain rfl := Option.some.inj (show some _ = some o from ho)
                obtain ⟨y1, hy1⟩ := hdep ⟨1, .data⟩ (by simp) rfl
                obtain rfl : y1 = .agg (tcs t (.slice At nt ct)) := hI.ok 1 y1 hy1
                have s1 := slotE (hNew 1 45 _ _ rfl rfl (by kernel_rfl) hy1)
                refine aCall rfl rfl (w1 := wcg) ?_ ((HCP2.out wcg hI.gr).mono fun e w' ⟨ta, tc, he, ho, hg⟩ => ⟨_, he, _, rfl, (hI.next hg).val hn (by decide) (⟨ta, tc, rfl, ho.le (Nat.le_trans HBS2.out hI.gr.size)⟩)⟩)
                go_simp
              · obtain rfl := Option.some.inj (show some _ = some o from ho)
                obtain ⟨y0, hy0⟩ := hdep ⟨0, .data⟩ (by simp) rfl
                obtain rfl : y0 = .agg (icells uf ⟨saf, snf, scf⟩) := hI.ok 0 y0 hy0
                have s0 := slotE (hNew 0 44 _ _ rfl rfl (by kernel_rfl) hy0)
                obtain ⟨y2, hy2⟩ := hdep ⟨2, .data⟩ (by simp) rfl
                obtain ⟨ta2, tc2, rfl, hl2⟩ : ∃ x c, y2 = .agg (tcs t (.slice x nt c)) ∧ TOO wcg (w.heap.size) (.slice x nt c) t.ops := hI.ok 2 y2 hy2
                have s2 := slotE (hNew 2 46 _ _ rfl rfl (by kernel_rfl) hy2)
                refine aCall rfl rfl (w1 := wcg) ?_ ((HRC2.out wcg hI.gr ta2 tc2 hl2.tov).mono fun e w' ⟨ur, sr, he, h1, h2, hg⟩ => ⟨_, he, _, rfl, (hI.next hg).val hn (by decide) (⟨ur, sr, rfl, h1.le (Nat.le_trans HBS2.out hI.gr.size), h2.le (Nat.le_trans HBS2.out hI.gr.size)⟩)⟩)
                go_simp
              · obtain rfl := Option.some.inj (show some _ = some o from ho)
                obtain ⟨y3, hy3⟩ := hdep ⟨3, .data⟩ (by simp) rfl
                obtain ⟨u3, ⟨sa3, sn3, sc3⟩, rfl, hl3⟩ : ∃ u s, y3 = .tuple #[.agg (icells u s), .int .i64 0, .int .i64 0] ∧ LN wcg (w.heap.size) u r.1 ∧ XN wcg (w.heap.size) s.v r.2 := hI.ok 3 y3 hy3
                have s3 := slotE (hNew 3 47 _ _ rfl rfl (by kernel_rfl) hy3)
                refine aVal rfl rfl (v := .tuple #[.agg (icells u3 ⟨sa3, sn3, sc3⟩), .int .i64 0, .int .i64 0]) (w' := wcg) ?_ ⟨_, rfl, hI.val hn (by decide) (⟨u3, ⟨sa3, sn3, sc3⟩, rfl, hl3⟩)⟩
                go_simp
              · obtain rfl := Option.some.inj (show some _ = some o from ho)
                obtain ⟨y4, hy4⟩ := hdep ⟨4, .data⟩ (by simp) rfl
                obtain ⟨u4, ⟨sa4, sn4, sc4⟩, rfl, hl4⟩ : ∃ u s, y4 = .tuple #[.agg (icells u s), .int .i64 0, .int .i64 0] ∧ LN wcg (w.heap.size) u r.1 ∧ XN wcg (w.heap.size) s.v r.2 := hI.ok 4 y4 hy4
                have s4 := slotE (hNew 4 43 _ _ rfl rfl (by kernel_rfl) hy4)
                refine aVal rfl rfl (v := .agg (icells u4 ⟨sa4, sn4, sc4⟩)) (w' := wcg) ?_ ⟨_, rfl, hI.val hn (by decide) (⟨u4, ⟨sa4, sn4, sc4⟩, rfl, hl4⟩)⟩
                go_simp
              · obtain rfl := Option.some.inj (show some _ = some o from ho)
                obtain ⟨y4, hy4⟩ := hdep ⟨4, .data⟩ (by simp) rfl
                obtain ⟨u4, ⟨sa4, sn4, sc4⟩, rfl, hl4⟩ : ∃ u s, y4 = .tuple #[.agg (icells u s), .int .i64 0, .int .i64 0] ∧ LN wcg (w.heap.size) u r.1 ∧ XN wcg (w.heap.size) s.v r.2 := hI.ok 4 y4 hy4
                have s4 := slotE (hNew 4 43 _ _ rfl rfl (by kernel_rfl) hy4)
                refine aVal rfl rfl (v := .int .i64 0) (w' := wcg) ?_ ⟨_, rfl, hI.val hn (by decide) (rfl)⟩
                go_simp
              · obtain rfl := Option.some.inj (show some _ = some o from ho)
                obtain ⟨y4, hy4⟩ := hdep ⟨4, .data⟩ (by simp) rfl
                obtain ⟨u4, ⟨sa4, sn4, sc4⟩, rfl, hl4⟩ : ∃ u s, y4 = .tuple #[.agg (icells u s), .int .i64 0, .int .i64 0] ∧ LN wcg (w.heap.size) u r.1 ∧ XN wcg (w.heap.size) s.v r.2 := hI.ok 4 y4 hy4
                have s4 := slotE (hNew 4 43 _ _ rfl rfl (by kernel_rfl) hy4)
                refine aVal rfl rfl (v := .int .i64 0) (w' := wcg) ?_ ⟨_, rfl, hI.val hn (by decide) (rfl)⟩
                go_simp
              · obtain rfl := Option.some.inj (show some _ = some o from ho)
                refine aVal rfl rfl (v := .pointer (some ⟨wcg.heap.size, 0, none⟩)) (w' := wcg.alloc (.cells (zic) 35)) ?_ ⟨_, rfl, hI.new hn (by decide) rfl rfl (fun _ _ => trivial)⟩
                go_simp
              · obtain rfl := Option.some.inj (show some _ = some o from ho)
                obtain ⟨y8, hy8⟩ := hdep ⟨8, .data⟩ (by simp) rfl
                obtain ⟨P, rfl, hP1, hP2⟩ := hI.at_new (a := 8) (k := 9) (s := 5) (by decide) hn hy8
                have s8 := slotE (hNew 8 10 _ _ rfl rfl (by kernel_rfl) hy8)
                obtain ⟨y5, hy5⟩ := hdep ⟨5, .data⟩ (by simp) rfl
                obtain ⟨u5, ⟨sa5, sn5, sc5⟩, rfl, hl5⟩ : ∃ u s, y5 = .agg (icells u s) ∧ LN wcg (w.heap.size) u r.1 ∧ XN wcg (w.heap.size) s.v r.2 := hI.ok 5 y5 hy5
                have s5 := slotE (hNew 5 48 _ _ rfl rfl (by kernel_rfl) hy5)
                have z0 : wcg.cell? ⟨P, 0, none⟩ = some (.slice none 0 0) := by rw [cell_of_block hP2]; rfl
                have k0 := unfrozen_of_block hP2 0
                have z1 : wcg.cell? ⟨P, 1, none⟩ = some (.slice none 0 0) := by rw [cell_of_block hP2]; rfl
                have k1 := unfrozen_of_block hP2 1
                have z2 : wcg.cell? ⟨P, 2, none⟩ = some (.slice none 0 0) := by rw [cell_of_block hP2]; rfl
                have k2 := unfrozen_of_block hP2 2
                have z3 : wcg.cell? ⟨P, 3, none⟩ = some (.slice none 0 0) := by rw [cell_of_block hP2]; rfl
                have k3 := unfrozen_of_block hP2 3
                have z4 : wcg.cell? ⟨P, 4, none⟩ = some (.slice none 0 0) := by rw [cell_of_block hP2]; rfl
                have k4 := unfrozen_of_block hP2 4
                have z5 : wcg.cell? ⟨P, 5, none⟩ = some (.slice none 0 0) := by rw [cell_of_block hP2]; rfl
                have k5 := unfrozen_of_block hP2 5
                have z6 : wcg.cell? ⟨P, 6, none⟩ = some (.slice none 0 0) := by rw [cell_of_block hP2]; rfl
                have k6 := unfrozen_of_block hP2 6
                have z7 : wcg.cell? ⟨P, 7, none⟩ = some (.slice none 0 0) := by rw [cell_of_block hP2]; rfl
                have k7 := unfrozen_of_block hP2 7
                have z8 : wcg.cell? ⟨P, 8, none⟩ = some (.slice none 0 0) := by rw [cell_of_block hP2]; rfl
                have k8 := unfrozen_of_block hP2 8
                have hz := hP2
                refine aSkip rfl rfl (w' := putCells wcg P 0 (icells u5 ⟨sa5, sn5, sc5⟩ : Array Value).toList) ?_ ⟨_, rfl, hI.putA (a := 8) (k := 9) (s := 5) (c := icells u5 ⟨sa5, sn5, sc5⟩) (by decide) hn (by decide) (by decide) (by decide) hy8 hy5 rfl (fun _ => trivial)⟩
                clear hz hI hP2
                go_simp
                rfl
              · obtain rfl := Option.some.inj (show some _ = some o from ho)
                obtain ⟨y6, hy6⟩ := hdep ⟨6, .data⟩ (by simp) rfl
                obtain rfl : y6 = .int .i64 0 := hI.ok 6 y6 hy6
                have s6 := slotE (hNew 6 49 _ _ rfl rfl (by kernel_rfl) hy6)
                refine aVal rfl rfl (v := .int .i64 0) (w' := wcg) ?_ ⟨_, rfl, hI.val hn (by decide) (rfl)⟩
                go_simp
              · obtain rfl := Option.some.inj (show some _ = some o from ho)
                obtain ⟨y7, hy7⟩ := hdep ⟨7, .data⟩ (by simp) rfl
                obtain rfl : y7 = .int .i64 0 := hI.ok 7 y7 hy7
                have s7 := slotE (hNew 7 50 _ _ rfl rfl (by kernel_rfl) hy7)
                refine aVal rfl rfl (v := .int .i64 0) (w' := wcg) ?_ ⟨_, rfl, hI.val hn (by decide) (rfl)⟩
                go_simp
            · intro vals wcg hall hI
              refine NoPanic.normal ?_
              obtain ⟨y0, hy0⟩ := hall 0 (by decide)
              obtain ⟨y1, hy1⟩ := hall 1 (by decide)
              obtain ⟨y2, hy2⟩ := hall 2 (by decide)
              obtain ⟨y3, hy3⟩ := hall 3 (by decide)
              obtain ⟨y4, hy4⟩ := hall 4 (by decide)
              obtain ⟨y5, hy5⟩ := hall 5 (by decide)
              obtain ⟨y6, hy6⟩ := hall 6 (by decide)
              obtain ⟨y7, hy7⟩ := hall 7 (by decide)
              obtain ⟨y8, hy8⟩ := hall 8 (by decide)
              obtain ⟨y9, hy9⟩ := hall 9 (by decide)
              obtain ⟨y10, hy10⟩ := hall 10 (by decide)
              obtain ⟨y11, hy11⟩ := hall 11 (by decide)
              have hP := hI.at_full (a := 8) (k := 9) (s := 5) (by decide) hy9 hy5 hy8
              obtain ⟨ug, ⟨sag, sng, scg⟩, rfl, hlg⟩ : ∃ u s, y5 = .agg (icells u s) ∧ LN wcg (w.heap.size) u r.1 ∧ XN wcg (w.heap.size) s.v r.2 := hI.ok 5 y5 hy5
              obtain ⟨Pg, rfl, hPg, hbg⟩ := hP
              obtain rfl : y10 = .int .i64 0 := hI.ok 10 y10 hy10
              obtain rfl : y11 = .int .i64 0 := hI.ok 11 y11 hy11
              have HBg : Hid (IBox wcg Pg ug ⟨sag, sng, scg⟩) := Lib.hid ⟨hbg⟩
              have HLg := Lib.hid hlg
              have HGg := Lib.hid hI.gr
              have HPg := Lib.hid hPg
              clear hbg hlg hPg
              simp only [putAll, putV, hy0, hy1, hy2, hy3, hy4, hy5, hy6, hy7, hy8, hy9, hy10, hy11]
              clear hI hall hy0 hy1 hy2 hy3 hy4 hy5 hy6 hy7 hy8 hy9 hy10 hy11
              simp only [Act.put, List.setIfInBounds_toArray, List.set_cons_zero, List.set_cons_succ]
              have HSM := Lib.hid (rsame13_any ug uf sag saf sng scg snf scf r r wcg (iv_of HLg.out.1 HLg.out.2) (HIV2.out wcg HGg.out))
              rw [sameIB_self] at HSM
              obtain ⟨q0, q1, q2, q3, q4, q5, q6, q7, q8⟩ := HBg.out.all
              obtain ⟨p0, p1, p2, p3, p4, p5, p6, p7, p8⟩ := (HBf.out.gr HGg.out).all
              go_wp2_with fail
              refine HSM.out.mono ?_
              rintro e wz ⟨rfl, gz⟩
              have HGZ := Lib.hid gz
              clear gz q0 q1 q2 q3 q4 q5 q6 q7 q8 p0 p1 p2 p3 p4 p5 p6 p7 p8
              go_wp2_with fail
              go_ret
              exact ⟨rfl, ((HIN.out.gr.trans HGf.out).trans HGg.out).trans HGZ.out⟩
          · have hd := HD0.out h0
            subst hd
            have hb0 : ((er : Int) != 0) = true := by simpa using h0
            have hd0 : ¬ (er : Int) = 0 := by omega
            clear h0
            go_wp2_with fail
            go_ret
            exact ⟨rfl, HIN.out.gr.trans HGf.out⟩
end Go.Proofs.Ytjpiemgpbakfaaa
