/- Walks: alone. -/
import Derived.Test.YtaldgjcbbjjceaaGVsO
import Derived.Test.YtaldgjcbbjjceaaG12
namespace Go.Proofs.Ytaldgjcbbjjceaa
open Go.RowKit Go.Joins
set_option linter.unusedSimpArgs false
set_option linter.unusedVariables false

theorem opCellsA (w : World) (o : TO) : ∃ W, W = w.alloc (.cells (opv o) 41) ∧ Gr w W ∧ W.heap[w.heap.size]? = some (.cells (opv o) 41 (0, 0)) := ⟨_, rfl, (Gr.refl w).alloc _, heap_alloc _ _ _⟩
theorem tov_one {w : World} {b : Nat} {o : TO} (h : w.heap[b]? = some (.cells (opv o) 41 (0, 0))) : TOV w (.slice (some ⟨b, 0, none⟩) 1 1) [o] := by
  refine ⟨some ⟨b, 0, none⟩, 1, rfl, Nat.le_refl _, ⟨by decide, fun e => by cases e⟩, fun j hj => ⟨b, 0, rfl, ?_⟩⟩
  have : j = 0 := by simp at hj; omega
  subst this
  refine ⟨?_, ?_, ?_, ?_⟩ <;> (rw [cell_of_block h]; rfl)
theorem too_one {w : World} {b B : Nat} {o : TO} (h : w.heap[b]? = some (.cells (opv o) 41 (0, 0))) (hB : B ≤ b) : TOO w B (.slice (some ⟨b, 0, none⟩) 1 1) [o] :=
  ⟨rfl, .inr ⟨b, 1, opv o, rfl, hB, h, Nat.le_refl _, by decide, rfl, rfl⟩⟩
set_option maxRecDepth 100000 in
set_option maxHeartbeats 8000000 in
theorem alone_any (u : Nat → S3) (l : LG) (key : ByteArray) (w : World) (h : LV w u l) (hf : FitC l) :
    Calls Try.prog 16 #[.agg (lcells u), .string key] w fun e w' => ∃ u2, e = .returned (.agg (lcells u2)) ∧ LN w' w.heap.size u2 (alL key l) ∧ Gr w w' := by
  obtain ⟨W, hW, hg, hL, hZ⟩ : ∃ W, W = (w.alloc (.cells (lcells u) 24)).alloc (.cells (lcells Z3) 24) ∧ Gr w W ∧ LBox W w.heap.size u ∧ LBox W (w.heap.size + 1) Z3 := by
    refine ⟨_, rfl, ((Gr.refl w).alloc _).alloc _, ⟨?_⟩, ⟨?_⟩⟩ <;> (simp only [World.alloc, Array.getElem?_push, Array.size_push]; simp)
  have HCP := Lib.hid (fun w1 (g : Gr W w1) => rcopy9_dis u l w1 ((h.gr hg).gr g) hf)
  have HF := Lib.hid hf
  have HZ := Lib.hid hZ
  have HG := Lib.hid hg
  have HSW : Hid (w.heap.size + 2 ≤ W.heap.size) := Lib.hid (by rw [hW]; simp)
  obtain ⟨l0, l1, l2, l3, l4, l5, l6, l7⟩ := hL.all
  clear h hf hL hZ hg
  go_enter Try.func16, Try.ntmps16
  go_upto_region 1 with (fail)
  change Code.wp Try.prog _ _ _ ((w.alloc (.cells (lcells u) 24)).alloc (.cells (lcells Z3) 24))
  rw [← hW]
  clear hW
  go_wp2_with fail
  refine (HCP.out _ (Gr.refl _)).mono ?_
  rintro e w1 ⟨us, rfl, hln, hdj, g1⟩
  obtain ⟨W2, hW2, hg2, hb2⟩ : ∃ x, x = w1.alloc (.cells (lcells us) 24) ∧ Gr w1 x ∧ LBox x w1.heap.size us := ⟨_, rfl, (Gr.refl _).alloc _, ⟨heap_alloc _ _ _⟩⟩
  obtain ⟨P, hP⟩ : ∃ P, P = w1.heap.size := ⟨_, rfl⟩
  rw [← hP] at hb2
  have HS0 : Hid (AlS w W.heap.size P us (alX key l 0 0) W2) := Lib.hid ((⟨(HZ.out.gr g1).gr hg2, hb2, hln.mid (Mid.of_gr hg2), (HG.out.trans g1).trans hg2⟩ : AlS w W.heap.size P us l W2).congr fun j hj => (alX_zero key l j).symm)
  have HDJ := Lib.hid hdj
  have HUN : Hid (∀ j, j < 8 → (us j).n = (l j).length) := Lib.hid (fun j hj => hln.lv.len hj)
  have HLE : Hid (∀ j, j < 8 → (l j).length ≤ 9223372036854775807) := Lib.hid (fun j hj => hln.lv.le hj)
  clear hln hdj g1 hg2 hb2 l0 l1 l2 l3 l4 l5 l6 l7 HCP
  go_upto_region 2 with (fail)
  change Code.wp Try.prog _ _ _ (w1.alloc (.cells (lcells us) 24))
  rw [← hW2, ← hP]
  clear hW2 hP
  go_wp2_with fail
  go_loopw [6] (fun i wr => ∃ k : Nat, k ≤ 8 ∧ i = .int .i64 k ∧ Hid (AlS w W.heap.size P us (alX key l k 0) wr)) (fun i _ => 8 - (intOf i).toNat)
  case atStart => exact ⟨0, by decide, rfl, HS0⟩
  case round =>
    obtain ⟨i, hi, rfl, hst⟩ := hrel
    rename World => wi
    have HSI := hst
    clear hst
    by_cases hi8 : i < 8
    case neg =>
      obtain rfl : i = 8 := by omega
      have HLN : Hid (LN wi W.heap.size us (alL key l)) := Lib.hid fun j hj => by rw [← alX_all key l hj]; exact HSI.out.ln j hj
      have HG2 := Lib.hid HSI.out.gr
      obtain ⟨q0, q1, q2, q3, q4, q5, q6, q7⟩ := HSI.out.ob.all
      have hz := HSI.out.zb
      obtain ⟨s0, s1, s2, s3, s4, s5, s6, s7⟩ := hz.zero
      have f0 := unfrozen_of_block hz.box 0
      have f1 := unfrozen_of_block hz.box 1
      have f2 := unfrozen_of_block hz.box 2
      have f3 := unfrozen_of_block hz.box 3
      have f4 := unfrozen_of_block hz.box 4
      have f5 := unfrozen_of_block hz.box 5
      have f6 := unfrozen_of_block hz.box 6
      have f7 := unfrozen_of_block hz.box 7
      clear hz HSI
      go_wp2_with fail
      refine bodyPost_ret (v := .agg (lcells us)) (by simp [results, Try.results16, go_sem, *]) rfl ⟨us, rfl, ?_, ?_⟩
      · show LN (putCells wi (w.heap.size + 1) 0 [.slice (us 0).a (us 0).n (us 0).c, .slice (us 1).a (us 1).n (us 1).c, .slice (us 2).a (us 2).n (us 2).c, .slice (us 3).a (us 3).n (us 3).c, .slice (us 4).a (us 4).n (us 4).c, .slice (us 5).a (us 5).n (us 5).c, .slice (us 6).a (us 6).n (us 6).c, .slice (us 7).a (us 7).n (us 7).c]) _ _ _
        exact fun j hj => ((HLN.out j hj).mid (mid_putCells (by have := HSW.out; omega) _ _ _)).le (by have := HSW.out; omega)
      · show Gr w (putCells wi (w.heap.size + 1) 0 [.slice (us 0).a (us 0).n (us 0).c, .slice (us 1).a (us 1).n (us 1).c, .slice (us 2).a (us 2).n (us 2).c, .slice (us 3).a (us 3).n (us 3).c, .slice (us 4).a (us 4).n (us 4).c, .slice (us 5).a (us 5).n (us 5).c, .slice (us 6).a (us 6).n (us 6).c, .slice (us 7).a (us 7).n (us 7).c])
        exact Gr.putCells (Nat.le_succ _) _ _ HG2.out
    case pos =>
    have hi0 : (0 : Int) ≤ (i : Int) := Int.natCast_nonneg _
    have hi81 : (i : Int) < 8 := by omega
    obtain ⟨n, hn⟩ : ∃ n, n = (us i).n := ⟨_, rfl⟩
    obtain ⟨A0, hA0⟩ : ∃ A, A = (us i).a := ⟨_, rfl⟩
    obtain ⟨c0, hc0⟩ : ∃ c, c = (us i).c := ⟨_, rfl⟩
    have HNL : Hid (n = (l i).length) := Lib.hid (by rw [hn]; exact HUN.out i hi8)
    have hnb : n ≤ 9223372036854775807 := by rw [HNL.out]; exact HLE.out i hi8
    have HN := Lib.hid hn
    have HA0 := Lib.hid hA0
    have HC0 := Lib.hid hc0
    have HI8 := Lib.hid hi8
    clear hn hA0 hc0
    go_wp2_with fail
    go_loopw [7] (fun kk wr => ∃ k : Nat, k ≤ n ∧ kk = .int .i64 k ∧ Hid (AlS w W.heap.size P us (alX key l i k) wr)) (fun kk _ => n - (intOf kk).toNat)
    case atStart => exact ⟨0, Nat.zero_le _, rfl, HSI⟩
    case round =>
      obtain ⟨k, hk, rfl, hst⟩ := hrel
      rename World => wk
      have HSK := hst
      have lk := hst.out.ob.at HI8.out
      rw [← HA0.out, ← HN.out, ← HC0.out] at lk
      clear hst
      by_cases hkn : k < n
      case neg =>
        obtain rfl : k = n := by omega
        have HE : Hid (AlS w W.heap.size P us (alX key l (i + 1) 0) wk) := Lib.hid (HSK.out.congr fun j hj => by rw [HNL.out]; exact alX_done key l i j)
        go_wp2_with fail
        go_roundw
        case measure => simp [intOf]; omega
        case rel => exact ⟨i + 1, by omega, by go_num, HE⟩
      case pos =>
      have hk0 : (0 : Int) ≤ (k : Int) := Int.natCast_nonneg _
      have hkn1 : (k : Int) < (n : Int) := by omega
      have hkl : k < (l i).length := by rw [← HNL.out]; exact hkn
      obtain ⟨t, ht⟩ : ∃ t, t = (l i)[k] := ⟨_, rfl⟩
      have hxv := (HSK.out.ln i HI8.out).xv
      rw [← HA0.out, ← HN.out, ← HC0.out] at hxv
      obtain ⟨Ax, cx, hv, -, -, hat⟩ := hxv
      injection hv with e1 e2 e3
      subst e1 e3
      obtain ⟨g, off, hA, hxc⟩ := hat k (by rw [alX_len]; exact hkl)
      have hgo : off = 0 ∧ A0 = some ⟨g, 0, none⟩ := by
        obtain ⟨R, -, h2, -⟩ := HSK.out.ln i HI8.out
        rw [← HA0.out, hA] at h2
        rcases h2.2 with ⟨hh, _⟩ | ⟨g', cap, cur, hh, _⟩
        · injection hh with hh; cases hh
        · injection hh with hh
          injection hh with hh
          injection hh with h3 h4
          subst h3 h4
          exact ⟨rfl, hA⟩
      obtain ⟨rfl, hA⟩ := hgo
      have eg : (alX key l i k i)[k]'(by rw [alX_len]; exact hkl) = t := by
        have := alX_at (key := key) hkl
        rw [List.getElem?_eq_getElem (by rw [alX_len]; exact hkl)] at this
        rw [ht]
        exact Option.some.inj this
      rw [eg, Nat.zero_add] at hxc
      have HAg : Hid ((us i).a = some ⟨g, 0, none⟩) := Lib.hid (by rw [← HA0.out]; exact hA)
      subst hA
      obtain ⟨vx, hvx, x0, x1, x2, x3, x4, x5, x6, x7, x8, x9, x10, x11⟩ := hxc
      obtain ⟨Av, cv, hvf⟩ := tov_form hvx
      subst hvf
      obtain ⟨p, hp⟩ : ∃ p, p = t.ops.length := ⟨_, rfl⟩
      have HP := Lib.hid hp
      have HVX := Lib.hid hvx
      rw [← hp] at x11
      have hpb : p * 48 ≤ 140737488355328 := by
        rw [hp, ht]
        exact (HF.out.tx i _ HI8.out (List.getElem_mem hkl)).1
      have HX11 := Lib.hid x11
      have HLK := Lib.hid lk
      have HT := Lib.hid ht
      clear e2 hat x0 x1 x2 x3 x4 x5 x6 x7 x8 x9 x10 x11 hvx hp ht eg
      go_wp2_with fail
      clear lk
      go_loopw [8, 9] (fun s jj wr => ∃ j : Nat, j ≤ p ∧ jj = .int .i64 j ∧ Hid (TOO wr wk.heap.size s (alF key (t.ops.take j)) ∧ Gr wk wr)) (fun _ jj _ => p - (intOf jj).toNat)
      case atStart => exact ⟨0, Nat.zero_le _, rfl, Lib.hid ⟨by simpa [alF] using TOO.nil _ _, Gr.refl _⟩⟩
      case round =>
        obtain ⟨j, hj, rfl, hst⟩ := hrel
        rename World => wj
        have HSJ := hst
        have lk := hst.out.2.cell HLK.out
        have y11 := hst.out.2.cell HX11.out
        obtain ⟨As, cs, hsv, -, -⟩ := hst.out.1.form
        subst hsv
        obtain ⟨m, hm⟩ : ∃ m, m = (alF key (t.ops.take j)).length := ⟨_, rfl⟩
        have HM := Lib.hid hm
        rw [← hm] at HSJ ⊢
        clear hst hm
        by_cases hjp : j < p
        case pos =>
          have hj0 : (0 : Int) ≤ (j : Int) := Int.natCast_nonneg _
          have hjp1 : (j : Int) < (p : Int) := by omega
          have hjO : j < t.ops.length := by rw [← HP.out]; exact hjp
          obtain ⟨Ay, cy, hyv, -, -, hyat⟩ := HVX.out
          injection hyv with e1 e2 e3
          subst e1 e3
          obtain ⟨ob, oo, hA, hoc⟩ := hyat j hjO
          subst hA
          obtain ⟨o, ho⟩ : ∃ o, o = t.ops[j] := ⟨_, rfl⟩
          rw [← ho] at hoc
          have HNX := Lib.hid (alF_next (key := key) hjO)
          rw [← ho] at HNX
          obtain ⟨o0, o1, o2, o3⟩ := hoc.gr HSJ.out.2
          obtain ⟨W5, hW5, g5, hb5⟩ := opCellsA wj o
          obtain ⟨od, hod⟩ : ∃ x, x = o.kind := ⟨_, rfl⟩
          obtain ⟨oky, hoky⟩ : ∃ x, x = o.key := ⟨_, rfl⟩
          obtain ⟨oe, hoe⟩ : ∃ x, x = o.elem := ⟨_, rfl⟩
          obtain ⟨on', hon⟩ : ∃ x, x = o.n := ⟨_, rfl⟩
          have HO : Hid (o = ⟨od, oky, oe, on'⟩) := Lib.hid (by rw [hod, hoky, hoe, hon])
          unfold opv at hW5 hb5
          rw [← hod, ← hoky, ← hoe, ← hon] at hW5 hb5
          rw [← hod] at o0
          rw [← hoky] at o1
          rw [← hoe] at o2
          rw [← hon] at o3
          rw [← hoky] at HNX
          have HS5 : Hid (TOO W5 wk.heap.size (.slice As m cs) (alF key (t.ops.take j)) ∧ Gr wk W5) := Lib.hid ⟨HSJ.out.1.gr g5, HSJ.out.2.trans g5⟩
          have HB5 := Lib.hid hb5
          have hm48 : (m + 1) * 48 ≤ 140737488355328 := by
            have h1 := HM.out
            have h2 := alF_len key (t.ops.take j)
            rw [List.length_take] at h2
            omega
          clear e2 hyat ho hoc hod hoky hoe hon g5
          go_upto_region 13 with (fail)
          rw [← hW5]
          clear hW5 o0 o1 o2 o3 lk y11
          have z0 : W5.cell? ⟨wj.heap.size, 0, none⟩ = some (.int .i64 od) := by rw [cell_of_block hb5]; rfl
          have z1 : W5.cell? ⟨wj.heap.size, 1, none⟩ = some (.string oky) := by rw [cell_of_block hb5]; rfl
          have z2 : W5.cell? ⟨wj.heap.size, 2, none⟩ = some (.string oe) := by rw [cell_of_block hb5]; rfl
          have z3 : W5.cell? ⟨wj.heap.size, 3, none⟩ = some (.int .i64 on') := by rw [cell_of_block hb5]; rfl
          clear hb5
          rcases hky : eqS oky key with _ | _
          · have p1 : (oky.toList == key.toList) = false := hky
            have HE : Hid (TOO W5 wk.heap.size (.slice As m cs) (alF key (t.ops.take (j + 1))) ∧ Gr wk W5) := Lib.hid (by rw [HNX.out, hky]; simpa using HS5.out)
            clear hky
            go_wp2_with fail
            go_roundw
            case measure => simp [intOf]; omega
            case rel => exact ⟨j + 1, by omega, by go_num, HE⟩
          · have p1 : (oky.toList == key.toList) = true := hky
            have HE : Hid (alF key (t.ops.take (j + 1)) = alF key (t.ops.take j) ++ [⟨od, oky, oe, on'⟩]) := Lib.hid (by rw [HNX.out, hky, if_pos rfl, HO.out])
            obtain ⟨W6, hW6, g6, hb6⟩ := opCellsA W5 ⟨od, oky, oe, on'⟩
            have HB6 := Lib.hid (tov_one hb6)
            have HS6 := Lib.hid (And.intro (HS5.out.1.gr g6) (HS5.out.2.trans g6))
            obtain ⟨b6, hb6e⟩ : ∃ b, b = W5.heap.size := ⟨_, rfl⟩
            rw [← hb6e] at HB6
            clear hky hb6 g6
            go_wp2_with (at_builtin; rw [← hb6e, ← hW6]; refine wpList_push_to (w0 := wk) rfl (.tmp 51) (.tmp 53) rfl (.slice As m cs) (.slice (some ⟨b6, 0, none⟩) 1 1) (alF key (t.ops.take j)) [⟨od, oky, oe, on'⟩] m 1 HM.out rfl rfl HS6.out.1 rfl HB6.out hm48 HS6.out.2 ?_)
            intro A' c' w7 hown g7
            have HE7 : Hid (TOO w7 wk.heap.size (.slice A' (m + 1) c') (alF key (t.ops.take (j + 1))) ∧ Gr wk w7) := Lib.hid ⟨by rw [HE.out]; exact hown, g7⟩
            clear hown g7
            go_wp2_with fail
            go_roundw
            case measure => simp [intOf]; omega
            case rel => exact ⟨j + 1, by omega, by go_num, HE7⟩
        case neg =>
          obtain rfl : j = p := by omega
          have HAF : Hid (TOO wj wk.heap.size (.slice As m cs) (alF key t.ops) ∧ m = (alF key t.ops).length) := Lib.hid (by
            have h1 := HSJ.out.1
            have h2 := HM.out
            rw [HP.out, List.take_length] at h1 h2
            exact ⟨h1, h2⟩)
          have HGJ := Lib.hid HSJ.out.2
          have HSN := Lib.hid (HSK.out.next HSJ.out.2)
          have HBW : Hid (w.heap.size ≤ W.heap.size ∧ W.heap.size ≤ wk.heap.size) := Lib.hid ⟨HG.out.size, by
            obtain ⟨R, -, h2, -⟩ := HSK.out.ln i HI8.out
            rw [HAg.out] at h2
            have := World.ownsRow.lt (h := h2) g rfl
            omega⟩
          have HFZ : Hid (∀ wz, AlS w W.heap.size P us (alX key l i k) wz → wz.frozen? ⟨g, k * 12 + 11, none⟩ = false) := Lib.hid (fun wz hz => by
            obtain ⟨R, -, h2, -⟩ := hz.ln i HI8.out
            rw [HAg.out] at h2
            have h3 := (show wz.ownsRow _ _ _ _ _ _ from h2)
            rcases h3.2 with ⟨hh, _⟩ | ⟨g', cap', cur, hh, hb', hg', -⟩
            · cases hh
            · injection hh with q1 q2 q3
              injection q1 with q1
              injection q1 with q1
              subst q1
              exact unfrozen_of_block hg' _)
          have f11 := HFZ.out _ HSN.out
          have HDN : Hid (∀ (s : S3) (wz : World), AlS w W.heap.size P us (alX key l i k) wz → TOO wz W.heap.size s.v (alO key t.ops) → AlS w W.heap.size P us (alX key l i (k + 1)) (wz.setCell ⟨g, k * 12 + 11, none⟩ s.v)) := Lib.hid (fun s wz h1 h2 => by
            rw [HT.out] at h2
            exact h1.put HDJ.out HI8.out hkl HAg.out HBW.out.1 s h2)
          by_cases hm0 : m = 0
          · subst hm0
            have HOP : Hid (alO key t.ops = [othO key]) := Lib.hid (by unfold alO; rw [if_pos HAF.out.2.symm])
            have HSH := Lib.hid (short_any key wj)
            obtain ⟨sb, hsb⟩ : ∃ x, x = shortB key := ⟨_, rfl⟩
            have hs1 : sb.size = 1 := by rw [hsb]; unfold shortB; split <;> rfl
            have HOT : Hid (othO key = ⟨1, ⟨#[111, 116, 104, 101, 114, 47]⟩ ++ sb, ⟨#[]⟩, 1⟩) := Lib.hid (by rw [hsb]; rfl)
            rw [← hsb] at HSH
            obtain ⟨W6, hW6, g6, hb6⟩ := opCellsA wj ⟨1, ⟨#[111, 116, 104, 101, 114, 47]⟩ ++ sb, ⟨#[]⟩, 1⟩
            have HO6 : Hid (TOO W6 W.heap.size (⟨some ⟨wj.heap.size, 0, none⟩, 1, 1⟩ : S3).v (alO key t.ops)) := Lib.hid (by
              rw [HOP.out, HOT.out]
              exact too_one hb6 (Nat.le_trans HBW.out.2 HGJ.out.size))
            have HE := Lib.hid (HDN.out _ _ (HSN.out.next g6) HO6.out)
            have lk6 := g6.cell lk
            have y6 := g6.cell y11
            have f6 : W6.frozen? ⟨g, k * 12 + 11, none⟩ = false := HFZ.out _ (HSN.out.next g6)
            clear hsb hb6 g6
            go_wp2_with fail
            refine HSH.out.mono ?_
            rintro e w8 ⟨rfl, rfl⟩
            go_upto_region 17 with (fail)
            rw [← hW6]
            clear hW6 lk y11 f11
            go_wp2_with fail
            go_roundw
            case measure => simp [intOf]; omega
            case rel => exact ⟨k + 1, by omega, by go_num, HE⟩
          · have HOP : Hid (alO key t.ops = alF key t.ops) := Lib.hid (by unfold alO; rw [if_neg (by rw [← HAF.out.2]; exact hm0)])
            have HE := Lib.hid (HDN.out ⟨As, m, cs⟩ _ HSN.out (by rw [HOP.out]; exact HAF.out.1.le HBW.out.2))
            have hm1 : ¬ ((m : Int) = 0) := by omega
            have hm2 : ((m : Int) == 0) = false := beq_eq_false_iff_ne.2 hm1
            go_wp2_with fail
            go_roundw
            case measure => simp [intOf]; omega
            case rel => exact ⟨k + 1, by omega, by go_num, HE⟩
end Go.Proofs.Ytaldgjcbbjjceaa
