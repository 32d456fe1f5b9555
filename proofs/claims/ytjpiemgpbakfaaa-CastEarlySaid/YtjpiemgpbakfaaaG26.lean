/- Texts CaD, joined. -/
import Derived.Test.YtjpiemgpbakfaaaG25
/- Walk: package cast's letIn. Written by wip/tools/gencad.py. -/
namespace Go.Proofs.Ytjpiemgpbakfaaa
open Go.RowKit Go.Joins
set_option linter.unusedSimpArgs false
set_option linter.unusedVariables false

/-- A call's answer: logs, what waits on, has one come in. -/
def RetLi (w0 : World) (B : Nat) (r : LG × List TX × Bool) (w : World) (e : Ending) (w' : World) : Prop :=
  ∃ u' v' R', e = .returned (.tuple #[.agg (lcells u'), v', .bool r.2.2]) ∧ LN w' B u' r.1 ∧ XO w' w.heap.size v' R' ∧ TOs w0 R' ∧ texts R' = r.2.1 ∧ Gr w w'
theorem sl_at {w : World} {A : Option Addr} {n c : Nat} {R : List TR} (h : SL w 12 (.slice A n c) n (trs R)) {j : Nat} (hj : j < R.length) : ∃ b off, A = some ⟨b, off, none⟩ ∧ XFix w b (off + j * 12) R[j].1 R[j].2.v := by
  obtain ⟨A', c', hv, h1, h2, h3, h4⟩ := h
  injection hv with e1 e2 e3
  subst e1
  obtain ⟨b, off, ha, _⟩ := h4 (j * 12) _ (by rw [show trs R = R.flatMap trcells from rfl, show j * 12 = j * 12 + 0 by omega, rows_at trcells 12 trcells_len R j 0 hj (by decide)]; rfl)
  refine ⟨b, off, ha, xfix_at hj fun i u hu => ?_⟩
  obtain ⟨b', off', ha', hc⟩ := h4 i u hu
  rw [ha] at ha'
  injection ha' with ha'
  injection ha' with e1 e2
  subst e1 e2
  exact hc
theorem logs_box (w : World) (u : Nat → S3) : ∃ W, W = w.alloc (.cells (lcells u) 24) ∧ Gr w W ∧ LBox W w.heap.size u := ⟨_, rfl, (Gr.refl _).alloc _, ⟨heap_alloc _ _ _⟩⟩
theorem zlog_box (w : World) : LBox (w.alloc (.cells zlc 24)) w.heap.size Z3 := ⟨heap_alloc _ _ _⟩
set_option maxRecDepth 100000 in
set_option maxHeartbeats 8000000 in
theorem letIn_any (u : Nat → S3) (l : LG) (A : Option Addr) (n c : Nat) (R : List TR) (w0 w : World) (B : Nat) (h : LN w B u l) (hB : B ≤ w.heap.size) (g0 : Gr w0 w) (hs : SL w 12 (.slice A n c) n (trs R)) (hn : n = R.length) (ho : TOs w0 R) (hf : FitC l) (hr : ∀ r ∈ R, FitT r.1) (hlen : n ≤ 64) :
    Calls Try.prog 32 #[.agg (lcells u), .slice A n c] w fun e w' => RetLi w0 B (letF l (texts R) []) w e w' := by
  obtain ⟨W, hW, hg, hsz, hL, hZ⟩ := boxesLi u w
  have HLI0 : Hid (LiR w0 w u l (texts R) 0 (.slice none 0 0) [] W) := Lib.hid ⟨hL, hZ, World.ownsRow_nil _ _ _ _, fun r hr => (by cases hr), Nat.le_refl _, rfl, hg⟩
  have HLN := Lib.hid h
  have HSL := Lib.hid hs
  have HO := Lib.hid ho
  have HF := Lib.hid hf
  have HR := Lib.hid hr
  have HN := Lib.hid hn
  have HB := Lib.hid hB
  have HG0 := Lib.hid g0
  have hnc : n ≤ c := by obtain ⟨A', c', hv, h1, _⟩ := hs; injection hv with _ _ e; rw [e]; exact h1
  have HNC := Lib.hid hnc
  clear hL hZ hg hsz h hs ho hf hr hn hB g0 hnc
  go_enter Try.func32, Try.ntmps32
  go_upto_region 1 with (fail)
  rw [← hW]
  clear hW
  go_wp2_with fail
  go_loopw [7, 14] (fun s i wr => ∃ k : Nat, k ≤ n ∧ i = .int .i64 k ∧ Hid (∃ Rs, LiR w0 w u l (texts R) k s Rs wr)) (fun _ i _ => n - (intOf i).toNat)
  case atStart => exact ⟨0, Nat.zero_le _, rfl, Lib.hid ⟨[], HLI0.out⟩⟩
  case round =>
    clear HLI0
    obtain ⟨k, hk, rfl, hst⟩ := hrel
    rename World => wr
    have hk0 : (0 : Int) ≤ (k : Int) := Int.natCast_nonneg _
    obtain ⟨Rs, hli⟩ := hst.out
    obtain ⟨As, cs, hsv, hmc, hc63⟩ := own_form hli.row
    subst hsv
    by_cases hlt : k < n
    · have hkn : (k : Int) < (n : Int) := by omega
      have hkl : k < R.length := by rw [← HN.out]; exact hlt
      obtain ⟨b, off, ha, hx⟩ := sl_at HSL.out hkl
      subst ha
      have hto := HO.out _ (List.getElem_mem hkl)
      have hfit := HR.out _ (List.getElem_mem hkl)
      have hat : (texts R)[k]? = some R[k].1 := by unfold texts; rw [List.getElem?_map, List.getElem?_eq_getElem hkl]; rfl
      obtain ⟨⟨t, sx⟩, hte⟩ : ∃ t, t = R[k] := ⟨_, rfl⟩
      rw [← hte] at hx hto hfit hat
      simp only at hx hto hfit hat
      obtain ⟨Ax, nx, cx⟩ := sx
      have HAT := Lib.hid hat
      have HTO := Lib.hid hto
      have HFT := Lib.hid hfit
      have hxr := hx.gr hli.gr
      obtain ⟨q0, q1, q2, q3, q4, q5, q6, q7, q8, q9, q10, q11⟩ := hxr
      obtain ⟨W4, hW4, hg4, hx4⟩ := xbox wr t (.slice Ax nx cx)
      have HLI := Lib.hid (hli.next hg4)
      have HX4 := Lib.hid hx4
      obtain ⟨m, hm⟩ : ∃ m, m = Rs.length := ⟨_, rfl⟩
      have HM := Lib.hid hm
      rw [← hm] at HLI ⊢
      have HADD := Lib.hid (add_any u l t (.slice Ax nx cx) W4 ((HLN.out.lv.gr hli.gr).gr hg4) HF.out (((hto.gr HG0.out).gr hli.gr).gr hg4) hfit.1 hfit.2)
      have hz : (wr.alloc (.cells zeroX 38)).heap[wr.heap.size]? = some (.cells zeroX 38 (0, 0)) := heap_alloc _ _ _
      have z0 : (wr.alloc (.cells zeroX 38)).cell? ⟨wr.heap.size, 0, none⟩ = some (.int .i64 0) := by rw [cell_of_block hz]; rfl
      have k0 := unfrozen_of_block hz 0
      have z1 : (wr.alloc (.cells zeroX 38)).cell? ⟨wr.heap.size, 1, none⟩ = some (.int .u64 0) := by rw [cell_of_block hz]; rfl
      have k1 := unfrozen_of_block hz 1
      have z2 : (wr.alloc (.cells zeroX 38)).cell? ⟨wr.heap.size, 2, none⟩ = some (.int .u64 0) := by rw [cell_of_block hz]; rfl
      have k2 := unfrozen_of_block hz 2
      have z3 : (wr.alloc (.cells zeroX 38)).cell? ⟨wr.heap.size, 3, none⟩ = some (.int .u64 0) := by rw [cell_of_block hz]; rfl
      have k3 := unfrozen_of_block hz 3
      have z4 : (wr.alloc (.cells zeroX 38)).cell? ⟨wr.heap.size, 4, none⟩ = some (.int .u64 0) := by rw [cell_of_block hz]; rfl
      have k4 := unfrozen_of_block hz 4
      have z5 : (wr.alloc (.cells zeroX 38)).cell? ⟨wr.heap.size, 5, none⟩ = some (.int .u64 0) := by rw [cell_of_block hz]; rfl
      have k5 := unfrozen_of_block hz 5
      have z6 : (wr.alloc (.cells zeroX 38)).cell? ⟨wr.heap.size, 6, none⟩ = some (.int .u64 0) := by rw [cell_of_block hz]; rfl
      have k6 := unfrozen_of_block hz 6
      have z7 : (wr.alloc (.cells zeroX 38)).cell? ⟨wr.heap.size, 7, none⟩ = some (.int .u64 0) := by rw [cell_of_block hz]; rfl
      have k7 := unfrozen_of_block hz 7
      have z8 : (wr.alloc (.cells zeroX 38)).cell? ⟨wr.heap.size, 8, none⟩ = some (.int .u64 0) := by rw [cell_of_block hz]; rfl
      have k8 := unfrozen_of_block hz 8
      have z9 : (wr.alloc (.cells zeroX 38)).cell? ⟨wr.heap.size, 9, none⟩ = some (.int .u64 0) := by rw [cell_of_block hz]; rfl
      have k9 := unfrozen_of_block hz 9
      have z10 : (wr.alloc (.cells zeroX 38)).cell? ⟨wr.heap.size, 10, none⟩ = some (.int .u64 0) := by rw [cell_of_block hz]; rfl
      have k10 := unfrozen_of_block hz 10
      have z11 : (wr.alloc (.cells zeroX 38)).cell? ⟨wr.heap.size, 11, none⟩ = some (.slice none 0 0) := by rw [cell_of_block hz]; rfl
      have k11 := unfrozen_of_block hz 11
      have hmk : m ≤ 64 := by have := hli.le; omega
      clear hx hto hfit hat hte hkl hli hst hg4 hmc hc63 hm
      go_upto_region 5 with (fail)
      clear z0 k0 z1 k1 z2 k2 z3 k3 z4 k4 z5 k5 z6 k6 z7 k7 z8 k8 z9 k9 z10 k10 z11 k11 hz q0 q1 q2 q3 q4 q5 q6 q7 q8 q9 q10 q11
      change Code.wp Try.prog _ _ _ (wr.alloc (.cells (tcs t (.slice Ax nx cx)) 38))
      rw [← hW4]
      clear hW4
      obtain ⟨x0, x1, x2, x3, x4, x5, x6, x7, x8, x9, x10, x11⟩ := hx4
      obtain ⟨l0, l1, l2, l3, l4, l5, l6, l7⟩ := HLI.out.a.all
      by_cases h0 : (addR l t).1 = 0
      · have HF2 := Lib.hid (addR_fitC (l := l) (t := t) HF.out HFT.out.2)
        obtain ⟨l2', hl2⟩ : ∃ x, x = (addR l t).2 := ⟨_, rfl⟩
        rw [← hl2] at HF2
        have HL2 := Lib.hid hl2
        have HE0 := Lib.hid h0
        rw [h0] at HADD
        clear h0 hl2
        go_wp2_with fail
        refine HADD.out.mono ?_
        rintro e w6 ⟨u6, rfl, hn6, g6⟩
        clear x0 x1 x2 x3 x4 x5 x6 x7 x8 x9 x10 x11 l0 l1 l2 l3 l4 l5 l6 l7
        obtain ⟨W7, hW7, hg7, hL7⟩ := logs_box w6 u6
        obtain ⟨z0, z1, z2, z3, z4, z5, z6, z7⟩ := (zlog_box w6).zero
        obtain ⟨f0, f1, f2, f3, f4, f5, f6, f7⟩ := (zlog_box w6).fz
        have HL7 := Lib.hid hL7
        have HN7 := Lib.hid (hn6.gr hg7)
        have HB4 : Hid (B ≤ W4.heap.size) := Lib.hid (Nat.le_trans HB.out HLI.out.gr.size)
        have HLI7 := Lib.hid ((HLI.out.next g6).next hg7)
        have HX7 := Lib.hid ((HX4.out.gr g6).gr hg7)
        have HB64 : Hid (W4.heap.size ≤ w6.heap.size) := Lib.hid g6.size
        clear hL7 hn6 g6 hg7
        go_upto_region 6 with (fail)
        clear z0 z1 z2 z3 z4 z5 z6 z7 f0 f1 f2 f3 f4 f5 f6 f7
        change Code.wp Try.prog _ _ _ (w6.alloc (.cells (lcells u6) 24))
        rw [← hW7]
        clear hW7
        have HC6 := Lib.hid (fun w1 (g : Gr W7 w1) => count_any u6 l2' w1 (by have := HN7.out.lv.gr g; rw [← HL2.out] at this; exact this) HF2.out.len)
        have HC2 := Lib.hid (fun w1 (g : Gr W7 w1) => count_any u l w1 ((HLN.out.lv.gr HLI7.out.gr).gr g) HF.out.len)
        by_cases hcn : cntL l < cntL l2'
        · have HEQ : Hid (∀ r st, letF l (t :: r) st = (l2', st ++ r, true)) := Lib.hid fun r st => by rw [HL2.out]; exact letF_in HE0.out (by rw [← HL2.out]; exact hcn)
          obtain ⟨m1, hm1⟩ : ∃ m, m = cntL l := ⟨_, rfl⟩
          obtain ⟨m2, hm2⟩ : ∃ m, m = cntL l2' := ⟨_, rfl⟩
          rw [← hm1] at hcn HC2
          rw [← hm2] at hcn HC6
          have hgt : decide ((m1 : Int) < (m2 : Int)) = true := decide_eq_true (by omega)
          have hgt2 : (m1 : Int) < (m2 : Int) := by omega
          clear hm1 hm2
          refine qRegion (fun w' => LC w' w6.heap.size u6 ∧ LC w' w.heap.size u ∧ Gr W7 w') (by kernel_rfl) (by kernel_rfl) ⟨HL7.out.lc.gr (Gr.refl _).drew, HLI7.out.a.lc.gr (Gr.refl _).drew, (Gr.refl _).drew⟩ ?_
          iterate 4
            refine qTake (by kernel_rfl) ?_
            apply Exists.intro
            refine ⟨fun wq hq => ?_, ?_⟩
            · go_light
              obtain ⟨⟨p0, p1, p2, p3, p4, p5, p6, p7⟩, ⟨q0, q1, q2, q3, q4, q5, q6, q7⟩, hg⟩ := hq
              go_simp
              try with_reducible rfl
              done
            try simp only [Act.put, List.setIfInBounds_toArray, List.set_cons_zero, List.set_cons_succ]
          refine qCall (by kernel_rfl) ?_
          apply Exists.intro
          refine ⟨?_, ?_⟩
          · apply Exists.intro
            apply Exists.intro
            refine ⟨fun wq => ?_, fun wq hq => ?_⟩
            · go_light
              go_simp
              exact ⟨rfl, rfl⟩
            · exact (HC6.out wq hq.2.2).mono fun e w'' ⟨he, hg⟩ => ⟨he, hq.1.gr hg, hq.2.1.gr hg, hq.2.2.trans hg⟩
          try simp only [Act.put, List.setIfInBounds_toArray, List.set_cons_zero, List.set_cons_succ]
          iterate 1
            refine qTake (by kernel_rfl) ?_
            apply Exists.intro
            refine ⟨fun wq hq => ?_, ?_⟩
            · go_light
              obtain ⟨⟨p0, p1, p2, p3, p4, p5, p6, p7⟩, ⟨q0, q1, q2, q3, q4, q5, q6, q7⟩, hg⟩ := hq
              go_simp
              try with_reducible rfl
              done
            try simp only [Act.put, List.setIfInBounds_toArray, List.set_cons_zero, List.set_cons_succ]
          refine qCall (by kernel_rfl) ?_
          apply Exists.intro
          refine ⟨?_, ?_⟩
          · apply Exists.intro
            apply Exists.intro
            refine ⟨fun wq => ?_, fun wq hq => ?_⟩
            · go_light
              go_simp
              exact ⟨rfl, rfl⟩
            · exact (HC2.out wq hq.2.2).mono fun e w'' ⟨he, hg⟩ => ⟨he, hq.1.gr hg, hq.2.1.gr hg, hq.2.2.trans hg⟩
          try simp only [Act.put, List.setIfInBounds_toArray, List.set_cons_zero, List.set_cons_succ]
          iterate 2
            refine qTake (by kernel_rfl) ?_
            apply Exists.intro
            refine ⟨fun wq hq => ?_, ?_⟩
            · go_light
              obtain ⟨⟨p0, p1, p2, p3, p4, p5, p6, p7⟩, ⟨q0, q1, q2, q3, q4, q5, q6, q7⟩, hg⟩ := hq
              go_simp
              try with_reducible rfl
              done
            try simp only [Act.put, List.setIfInBounds_toArray, List.set_cons_zero, List.set_cons_succ]
          refine qNil ?_
          rintro w8 ⟨-, -, hg8⟩
          have HG8 := Lib.hid hg8
          clear hg8
          obtain ⟨k1, hk1⟩ : ∃ k1, k1 = k + 1 := ⟨_, rfl⟩
          have hwr : wrap64 ((k : Int) + 1) = (k1 : Int) := by unfold wrap64; omega
          have hiw : IntKind.i64.wrap ((k : Int) + 1) = (k1 : Int) := by simp [IntKind.wrap, IntKind.bits, IntKind.signed]; omega
          have hkn1 : k1 ≤ n := by omega
          have HIS : Hid (letF l (texts R) [] = (l2', texts (Rs ++ R.drop k1), true)) := Lib.hid (by
            obtain ⟨hkl, hte⟩ := List.getElem?_eq_some_iff.1 HAT.out
            rw [HLI7.out.is, List.drop_eq_getElem_cons hkl, hte, HEQ.out, hk1]
            simp only [texts, List.map_append, List.map_drop])
          obtain ⟨Ad, cd, hsd, -⟩ := sl_drop HSL.out HN.out hkn1
          have HSD : Hid (∀ w1, Gr w w1 → SL w1 12 (.slice Ad (n - k1) cd) (n - k1) (trs (R.drop k1))) := Lib.hid fun w1 g => by
            obtain ⟨A', c', h2, h3⟩ := sl_drop (HSL.out.gr g) HN.out hkn1
            rw [hsd] at h2
            cases h2
            exact h3
          have hsx := sliceX_from n c k1 hkn1 (some ⟨b, off, none⟩)
          rw [hsd] at hsx
          obtain ⟨nd, hnd⟩ : ∃ x, x = n - k1 := ⟨_, rfl⟩
          rw [← hnd] at HSD hsx
          have HND := Lib.hid hnd
          have HK1 := Lib.hid hk1
          have hbt : (m + nd) * 112 ≤ 140737488355328 := by omega
          have h63 : m + nd ≤ maxLen := by unfold maxLen; omega
          have HBT := Lib.hid (And.intro hbt h63)
          have HLR : Hid ((Rs ++ R.drop k1).length = m + nd) := Lib.hid (by rw [List.length_append, List.length_drop, ← HM.out, ← HN.out, hnd])
          have HTS : Hid (trs (Rs ++ R.drop k1) = trs Rs ++ trs (R.drop k1)) := Lib.hid (by unfold trs; rw [List.flatMap_append])
          have HTO2 : Hid (TOs w0 (Rs ++ R.drop k1)) := Lib.hid fun r hr => by
            rcases List.mem_append.1 hr with hr | hr
            · exact HLI7.out.ops r hr
            · exact HO.out r (List.mem_of_mem_drop hr)
          have HAS : Hid (∀ g, (Value.slice As m cs).ownBlock = some g → g < W4.heap.size) := Lib.hid fun g hg => by
            have h1 := HLI.out.row
            rw [← HM.out] at h1
            exact (h1.lt g hg).2
          obtain ⟨i0, hi, hz0, hz1, hz2⟩ := info_parts infoTxn
          have HI := Lib.hid (And.intro hi (And.intro hz0 (And.intro hz1 hz2)))
          have HSW : Hid (w.heap.size + 1 < W4.heap.size) := Lib.hid HLI.out.z.lt
          have HROW : Hid (∀ w1, Gr W7 w1 → w1.ownsRow w.heap.size 38 12 (.slice As m cs) m (trs Rs)) := Lib.hid fun w1 g => by have := (HLI7.out.next g).row; rw [← HM.out] at this; exact this
          clear hi hz0 hz1 hz2 hsd hnd hk1 hbt h63 hgt hgt2 hcn
          go_upto_region 7 with (fail)
          refine wp_region_held_drew (S := fun w' => LC w' w6.heap.size u6) (by kernel_rfl) (HL7.out.gr HG8.out.drew).lc (fun hHeld => ?_)
          refine hTake (i := 0) rfl (by kernel_rfl) (by kernel_rfl) (by kernel_rfl) (by kernel_rfl) (by assumption) ?_
          apply Exists.intro
          refine ⟨fun _ _ _ h => h, fun wq hq => ?_, ?_⟩
          · go_light
            obtain ⟨p0, p1, p2, p3, p4, p5, p6, p7⟩ := hq
            go_simp
            try with_reducible rfl
            done
          try simp only [Act.put, List.setIfInBounds_toArray, List.set_cons_zero, List.set_cons_succ]
          refine hTake (i := 1) rfl (by kernel_rfl) (by kernel_rfl) (by kernel_rfl) (by kernel_rfl) (by assumption) ?_
          apply Exists.intro
          refine ⟨fun _ _ _ h => h, fun wq hq => ?_, ?_⟩
          · go_light
            obtain ⟨p0, p1, p2, p3, p4, p5, p6, p7⟩ := hq
            go_simp
            try with_reducible rfl
            done
          try simp only [Act.put, List.setIfInBounds_toArray, List.set_cons_zero, List.set_cons_succ]
          refine hTake (i := 2) rfl (by kernel_rfl) (by kernel_rfl) (by kernel_rfl) (by kernel_rfl) (by assumption) ?_
          apply Exists.intro
          refine ⟨fun _ _ _ h => h, fun wq hq => ?_, ?_⟩
          · go_light
            obtain ⟨p0, p1, p2, p3, p4, p5, p6, p7⟩ := hq
            go_simp
            try with_reducible rfl
            done
          try simp only [Act.put, List.setIfInBounds_toArray, List.set_cons_zero, List.set_cons_succ]
          refine hTake (i := 3) rfl (by kernel_rfl) (by kernel_rfl) (by kernel_rfl) (by kernel_rfl) (by assumption) ?_
          apply Exists.intro
          refine ⟨fun _ _ _ h => h, fun wq hq => ?_, ?_⟩
          · go_light
            obtain ⟨p0, p1, p2, p3, p4, p5, p6, p7⟩ := hq
            go_simp
            try with_reducible rfl
            done
          try simp only [Act.put, List.setIfInBounds_toArray, List.set_cons_zero, List.set_cons_succ]
          refine hTake (i := 4) rfl (by kernel_rfl) (by kernel_rfl) (by kernel_rfl) (by kernel_rfl) (by assumption) ?_
          apply Exists.intro
          refine ⟨fun _ _ _ h => h, fun wq hq => ?_, ?_⟩
          · go_light
            obtain ⟨p0, p1, p2, p3, p4, p5, p6, p7⟩ := hq
            go_simp
            try with_reducible rfl
            done
          try simp only [Act.put, List.setIfInBounds_toArray, List.set_cons_zero, List.set_cons_succ]
          refine hTake (i := 5) rfl (by kernel_rfl) (by kernel_rfl) (by kernel_rfl) (by kernel_rfl) (by assumption) ?_
          apply Exists.intro
          refine ⟨fun _ _ _ h => h, fun wq hq => ?_, ?_⟩
          · go_light
            obtain ⟨p0, p1, p2, p3, p4, p5, p6, p7⟩ := hq
            go_simp
            try with_reducible rfl
            done
          try simp only [Act.put, List.setIfInBounds_toArray, List.set_cons_zero, List.set_cons_succ]
          have hg3 : Gr W7 w8.drew := HG8.out.drew
          generalize w8.drew = W3 at *
          have HG3 := Lib.hid hg3
          clear hg3 hwr hiw hsx HG8 hHeld
          have HROW3 := Lib.hid (HROW.out W3 HG3.out)
          refine wpAnyH_ready (rs := [6]) (by kernel_rfl) (by simp) ?_
          refine AllReadyH.cons rfl (fun K hK => ?_) AllReadyH.nil
          refine step_append_sl W3 rfl (.tmp 35) (.tmp 39) 22 rfl w.heap.size 38 i0 _ 12 112 Try.underlying22 HI.out.1 HI.out.2.1 HI.out.2.2.1 HI.out.2.2.2 rfl (by decide) (.slice As m cs) m (trs Rs) rfl HROW3.out (.slice Ad nd cd) nd (trs (R.drop k1)) rfl (HSD.out W3 (HLI7.out.gr.trans HG3.out)) (trs_one _) HBT.out.2 HBT.out.1 (HLI7.out.gr.trans HG3.out).size (m + nd) rfl ?_
          intro A9 c9 w9 hown9 kp9 _
          have HZ9 := Lib.hid ((HLI7.out.z.gr HG3.out).grownX HROW3.out (by decide) kp9)
          have HB9 := Lib.hid ((HL7.out.gr HG3.out).grownX HROW3.out (by decide) kp9)
          have HLN9 : Hid (LN (putU w9 (w.heap.size + 1) u6) B u6 l2') := Lib.hid (by
            have h1 := ((HN7.out.gr HG3.out).kpB kp9 HAS.out).kpB (putU_kp w9 (w.heap.size + 1) u6) (fun g e => by injection e with e; rw [← e]; exact HSW.out)
            rw [← HL2.out] at h1
            exact h1.le HB4.out)
          have HXO9 : Hid (XO (putU w9 (w.heap.size + 1) u6) w.heap.size (.slice A9 (m + nd) c9) (Rs ++ R.drop k1)) := Lib.hid (by
            unfold XO
            rw [HLR.out, HTS.out]
            exact own_kpL hown9 HZ9.out (by decide) (putU_kp _ _ _))
          have HFIN : Hid (LBox (putU w9 (w.heap.size + 1) u6) (w.heap.size + 1) u6 ∧ LN (putU w9 (w.heap.size + 1) u6) B u6 l2' ∧ XO (putU w9 (w.heap.size + 1) u6) w.heap.size (.slice A9 (m + nd) c9) (Rs ++ R.drop k1) ∧ Gr w (putU w9 (w.heap.size + 1) u6)) := Lib.hid
            ⟨putU_box HZ9.out, HLN9.out, HXO9.out, putU_gr ((HLI7.out.gr.trans HG3.out).grown HROW3.out (Nat.le_refl _) kp9) (Nat.le_succ _) u6⟩
          have HSB : Hid (LC (putU w9 (w.heap.size + 1) u6) w6.heap.size u6) := Lib.hid (HB9.out.kpN (putU_kp _ _ _) (by have := HSW.out; have := HB64.out; omega)).lc
          clear hown9 kp9
          refine hK.out _ _ HB9.out.lc (fun _ => ?_)
          clear hK K
          try simp only [Act.put, List.setIfInBounds_toArray, List.set_cons_zero, List.set_cons_succ]
          have z0 := HZ9.out.zero.1
          have z1 := HZ9.out.zero.2.1
          have z2 := HZ9.out.zero.2.2.1
          have z3 := HZ9.out.zero.2.2.2.1
          have z4 := HZ9.out.zero.2.2.2.2.1
          have z5 := HZ9.out.zero.2.2.2.2.2.1
          have z6 := HZ9.out.zero.2.2.2.2.2.2.1
          have z7 := HZ9.out.zero.2.2.2.2.2.2.2
          have f0 := HZ9.out.fz.1
          have f1 := HZ9.out.fz.2.1
          have f2 := HZ9.out.fz.2.2.1
          have f3 := HZ9.out.fz.2.2.2.1
          have f4 := HZ9.out.fz.2.2.2.2.1
          have f5 := HZ9.out.fz.2.2.2.2.2.1
          have f6 := HZ9.out.fz.2.2.2.2.2.2.1
          have f7 := HZ9.out.fz.2.2.2.2.2.2.2
          refine wpAnyH_ready (rs := [7]) (by kernel_rfl) (by simp) ?_
          refine AllReadyH.cons rfl (fun K hK => ?_) AllReadyH.nil
          go_simp
          refine hK.out _ (putU w9 (w.heap.size + 1) u6) HSB.out (fun _ => ?_)
          clear hK K z0 z1 z2 z3 z4 z5 z6 z7 f0 f1 f2 f3 f4 f5 f6 f7
          try simp only [Act.put, List.setIfInBounds_toArray, List.set_cons_zero, List.set_cons_succ]
          refine wpAnyH_ready (rs := [8]) (by kernel_rfl) (by simp) ?_
          refine AllReadyH.cons rfl (fun K hK => ?_) AllReadyH.nil
          go_simp
          refine hK.out _ _ HSB.out (fun _ => ?_)
          clear hK K
          try simp only [Act.put, List.setIfInBounds_toArray, List.set_cons_zero, List.set_cons_succ]
          refine wpAnyH_ready (rs := [9]) (by kernel_rfl) (by simp) ?_
          refine AllReadyH.cons rfl (fun K hK => ?_) AllReadyH.nil
          go_simp
          refine hK.out _ _ HSB.out (fun _ => ?_)
          clear hK K
          refine wpAnyH_done (by kernel_rfl) ?_ _
          try simp only [Act.put, List.setIfInBounds_toArray, List.set_cons_zero, List.set_cons_succ]
          obtain ⟨w10, hw10⟩ : ∃ x, x = putU w9 (w.heap.size + 1) u6 := ⟨_, rfl⟩
          rw [← hw10] at HFIN ⊢
          clear hw10 HSB HLN9 HXO9 HZ9 HB9
          obtain ⟨z0, z1, z2, z3, z4, z5, z6, z7⟩ := HFIN.out.1.all
          go_wp2_with fail
          refine bodyPost_ret (v := .tuple #[.agg (lcells u6), .slice A9 (m + nd) c9, .bool true]) (by simp [results, Try.results32, go_sem, z0, z1, z2, z3, z4, z5, z6, z7]) rfl ?_
          refine ⟨u6, .slice A9 (m + nd) c9, Rs ++ R.drop k1, by rw [HIS.out], ?_⟩
          rw [HIS.out]
          exact ⟨HFIN.out.2.1, HFIN.out.2.2.1, HTO2.out, rfl, HFIN.out.2.2.2⟩
        · have HEQ : Hid (∀ r st, letF l (t :: r) st = letF l r st) := Lib.hid fun r st => letF_old HE0.out (by rw [← HL2.out]; exact hcn)
          obtain ⟨m1, hm1⟩ : ∃ m, m = cntL l := ⟨_, rfl⟩
          obtain ⟨m2, hm2⟩ : ∃ m, m = cntL l2' := ⟨_, rfl⟩
          rw [← hm1] at hcn HC2
          rw [← hm2] at hcn HC6
          have hgt : decide ((m1 : Int) < (m2 : Int)) = false := decide_eq_false (by omega)
          have hgt2 : ¬ (m1 : Int) < (m2 : Int) := by omega
          clear hm1 hm2
          refine qRegion (fun w' => LC w' w6.heap.size u6 ∧ LC w' w.heap.size u ∧ Gr W7 w') (by kernel_rfl) (by kernel_rfl) ⟨HL7.out.lc.gr (Gr.refl _).drew, HLI7.out.a.lc.gr (Gr.refl _).drew, (Gr.refl _).drew⟩ ?_
          iterate 4
            refine qTake (by kernel_rfl) ?_
            apply Exists.intro
            refine ⟨fun wq hq => ?_, ?_⟩
            · go_light
              obtain ⟨⟨p0, p1, p2, p3, p4, p5, p6, p7⟩, ⟨q0, q1, q2, q3, q4, q5, q6, q7⟩, hg⟩ := hq
              go_simp
              try with_reducible rfl
              done
            try simp only [Act.put, List.setIfInBounds_toArray, List.set_cons_zero, List.set_cons_succ]
          refine qCall (by kernel_rfl) ?_
          apply Exists.intro
          refine ⟨?_, ?_⟩
          · apply Exists.intro
            apply Exists.intro
            refine ⟨fun wq => ?_, fun wq hq => ?_⟩
            · go_light
              go_simp
              exact ⟨rfl, rfl⟩
            · exact (HC6.out wq hq.2.2).mono fun e w'' ⟨he, hg⟩ => ⟨he, hq.1.gr hg, hq.2.1.gr hg, hq.2.2.trans hg⟩
          try simp only [Act.put, List.setIfInBounds_toArray, List.set_cons_zero, List.set_cons_succ]
          iterate 1
            refine qTake (by kernel_rfl) ?_
            apply Exists.intro
            refine ⟨fun wq hq => ?_, ?_⟩
            · go_light
              obtain ⟨⟨p0, p1, p2, p3, p4, p5, p6, p7⟩, ⟨q0, q1, q2, q3, q4, q5, q6, q7⟩, hg⟩ := hq
              go_simp
              try with_reducible rfl
              done
            try simp only [Act.put, List.setIfInBounds_toArray, List.set_cons_zero, List.set_cons_succ]
          refine qCall (by kernel_rfl) ?_
          apply Exists.intro
          refine ⟨?_, ?_⟩
          · apply Exists.intro
            apply Exists.intro
            refine ⟨fun wq => ?_, fun wq hq => ?_⟩
            · go_light
              go_simp
              exact ⟨rfl, rfl⟩
            · exact (HC2.out wq hq.2.2).mono fun e w'' ⟨he, hg⟩ => ⟨he, hq.1.gr hg, hq.2.1.gr hg, hq.2.2.trans hg⟩
          try simp only [Act.put, List.setIfInBounds_toArray, List.set_cons_zero, List.set_cons_succ]
          iterate 2
            refine qTake (by kernel_rfl) ?_
            apply Exists.intro
            refine ⟨fun wq hq => ?_, ?_⟩
            · go_light
              obtain ⟨⟨p0, p1, p2, p3, p4, p5, p6, p7⟩, ⟨q0, q1, q2, q3, q4, q5, q6, q7⟩, hg⟩ := hq
              go_simp
              try with_reducible rfl
              done
            try simp only [Act.put, List.setIfInBounds_toArray, List.set_cons_zero, List.set_cons_succ]
          refine qNil ?_
          rintro w8 ⟨-, -, hg8⟩
          have HG8 := Lib.hid hg8
          clear hg8
          have HLS := Lib.hid ((HLI7.out.next HG8.out).skip HAT.out HEQ.out)
          clear hgt hgt2 hcn
          go_wp2_with fail
          go_roundw
          case measure => simp [intOf]; omega
          case rel => exact ⟨k + 1, by omega, by go_num, Lib.hid ⟨Rs, HLS.out⟩⟩
      by_cases h90 : (addR l t).1 = 90
      · have HEQ : Hid ((addR l t).1 = 90) := Lib.hid h90
        have HL2 : Hid (True) := Lib.hid trivial
        rw [h90] at HADD
        clear h0 h90
        go_wp2_with fail
        refine HADD.out.mono ?_
        rintro e w6 ⟨u6, rfl, hn6, g6⟩
        clear x0 x1 x2 x3 x4 x5 x6 x7 x8 x9 x10 x11 l0 l1 l2 l3 l4 l5 l6 l7
        obtain ⟨W7, hW7, hg7, hL7⟩ := logs_box w6 u6
        obtain ⟨z0, z1, z2, z3, z4, z5, z6, z7⟩ := (zlog_box w6).zero
        obtain ⟨f0, f1, f2, f3, f4, f5, f6, f7⟩ := (zlog_box w6).fz
        have HL7 := Lib.hid hL7
        have HN7 := Lib.hid (hn6.gr hg7)
        have HB4 : Hid (B ≤ W4.heap.size) := Lib.hid (Nat.le_trans HB.out HLI.out.gr.size)
        have HLI7 := Lib.hid ((HLI.out.next g6).next hg7)
        have HX7 := Lib.hid ((HX4.out.gr g6).gr hg7)
        have HB64 : Hid (W4.heap.size ≤ w6.heap.size) := Lib.hid g6.size
        clear hL7 hn6 g6 hg7
        go_upto_region 6 with (fail)
        clear z0 z1 z2 z3 z4 z5 z6 z7 f0 f1 f2 f3 f4 f5 f6 f7
        change Code.wp Try.prog _ _ _ (w6.alloc (.cells (lcells u6) 24))
        rw [← hW7]
        clear hW7
        refine qRegion (fun w' => Gr W7 w') (by kernel_rfl) (by kernel_rfl) (Gr.refl _).drew ?_
        iterate 3
          refine qTake (by kernel_rfl) ?_
          apply Exists.intro
          refine ⟨fun wq hq => ?_, ?_⟩
          · go_light
            obtain hg := hq
            go_simp
            try with_reducible rfl
            done
          try simp only [Act.put, List.setIfInBounds_toArray, List.set_cons_zero, List.set_cons_succ]
        iterate 5
          refine qSkip (by kernel_rfl) ?_
          try simp only [Act.put, List.setIfInBounds_toArray, List.set_cons_zero, List.set_cons_succ]
        iterate 1
          refine qTake (by kernel_rfl) ?_
          apply Exists.intro
          refine ⟨fun wq hq => ?_, ?_⟩
          · go_light
            obtain hg := hq
            go_simp
            try with_reducible rfl
            done
          try simp only [Act.put, List.setIfInBounds_toArray, List.set_cons_zero, List.set_cons_succ]
        refine qNil ?_
        rintro w8 hg8
        have HG8 := Lib.hid hg8
        clear hg8
        obtain ⟨x0, x1, x2, x3, x4, x5, x6, x7, x8, x9, x10, x11⟩ := HX7.out.gr HG8.out
        obtain ⟨W9, hW9, hg9, hx9⟩ := xbox w8 t (.slice Ax nx cx)
        have HX9 := Lib.hid hx9
        have HLI9 := Lib.hid ((HLI7.out.next HG8.out).next hg9)
        have HB9 : Hid (w.heap.size ≤ W9.heap.size) := Lib.hid HLI9.out.gr.size
        have HR9 : Hid (W9.ownsRow w.heap.size 38 12 (.slice As m cs) m (trs Rs)) := Lib.hid (by have := HLI9.out.row; rw [← HM.out] at this; exact this)
        have HT9 : Hid (TOV w0 (S3.v ⟨Ax, nx, cx⟩) t.ops) := Lib.hid HTO.out
        have hln : (m + 1) * 112 ≤ 140737488355328 := by omega
        have HLN9 := Lib.hid hln
        clear hx9 hg9 hln
        go_wp2_with (at_builtin; rw [← hW9]; refine wpList_push_tx rfl (.tmp 43) (.tmp 45) rfl w.heap.size (.slice As m cs) m w8.heap.size Rs (t, ⟨Ax, nx, cx⟩) rfl rfl HR9.out HX9.out HLN9.out HB9.out ?_; intro A10 c10 w10 hown10 kp10 _; have HW10 := Lib.hid (HLI9.out.more HM.out HAT.out HEQ.out HT9.out kp10 hown10); clear hown10 kp10)
        go_roundw
        case measure => simp [intOf]; omega
        case rel => exact ⟨k + 1, by omega, by go_num, Lib.hid ⟨Rs ++ [(t, ⟨Ax, nx, cx⟩)], HW10.out⟩⟩
      · have HEQ : Hid (∀ r st, letF l (t :: r) st = letF l r st) := Lib.hid fun r st => letF_bad h0 h90
        have HL2 : Hid (True) := Lib.hid trivial
        obtain ⟨e0, he0⟩ : ∃ e, e = (addR l t).1 := ⟨_, rfl⟩
        rw [← he0] at HADD h0 h90
        have hb0 : ((e0 : Int) == 0) = false := by simpa using h0
        have hb90 : ((e0 : Int) == 90) = false := by simp only [beq_eq_false_iff_ne]; omega
        have hd0 : ¬ (e0 : Int) = 0 := by omega
        have hd90 : ¬ (e0 : Int) = 90 := by omega
        clear he0 h0 h90
        go_wp2_with fail
        refine HADD.out.mono ?_
        rintro e w6 ⟨u6, rfl, hn6, g6⟩
        clear x0 x1 x2 x3 x4 x5 x6 x7 x8 x9 x10 x11 l0 l1 l2 l3 l4 l5 l6 l7
        obtain ⟨W7, hW7, hg7, hL7⟩ := logs_box w6 u6
        obtain ⟨z0, z1, z2, z3, z4, z5, z6, z7⟩ := (zlog_box w6).zero
        obtain ⟨f0, f1, f2, f3, f4, f5, f6, f7⟩ := (zlog_box w6).fz
        have HL7 := Lib.hid hL7
        have HN7 := Lib.hid (hn6.gr hg7)
        have HB4 : Hid (B ≤ W4.heap.size) := Lib.hid (Nat.le_trans HB.out HLI.out.gr.size)
        have HLI7 := Lib.hid ((HLI.out.next g6).next hg7)
        have HX7 := Lib.hid ((HX4.out.gr g6).gr hg7)
        have HB64 : Hid (W4.heap.size ≤ w6.heap.size) := Lib.hid g6.size
        clear hL7 hn6 g6 hg7
        go_upto_region 6 with (fail)
        clear z0 z1 z2 z3 z4 z5 z6 z7 f0 f1 f2 f3 f4 f5 f6 f7
        change Code.wp Try.prog _ _ _ (w6.alloc (.cells (lcells u6) 24))
        rw [← hW7]
        clear hW7
        refine qRegion (fun w' => Gr W7 w') (by kernel_rfl) (by kernel_rfl) (Gr.refl _).drew ?_
        iterate 3
          refine qTake (by kernel_rfl) ?_
          apply Exists.intro
          refine ⟨fun wq hq => ?_, ?_⟩
          · go_light
            obtain hg := hq
            go_simp
            try with_reducible rfl
            done
          try simp only [Act.put, List.setIfInBounds_toArray, List.set_cons_zero, List.set_cons_succ]
        iterate 5
          refine qSkip (by kernel_rfl) ?_
          try simp only [Act.put, List.setIfInBounds_toArray, List.set_cons_zero, List.set_cons_succ]
        iterate 1
          refine qTake (by kernel_rfl) ?_
          apply Exists.intro
          refine ⟨fun wq hq => ?_, ?_⟩
          · go_light
            obtain hg := hq
            go_simp
            try with_reducible rfl
            done
          try simp only [Act.put, List.setIfInBounds_toArray, List.set_cons_zero, List.set_cons_succ]
        refine qNil ?_
        rintro w8 hg8
        have HG8 := Lib.hid hg8
        clear hg8
        have HLS := Lib.hid ((HLI7.out.next HG8.out).skip HAT.out HEQ.out)
        go_wp2_with fail
        go_roundw
        case measure => simp [intOf]; omega
        case rel => exact ⟨k + 1, by omega, by go_num, Lib.hid ⟨Rs, HLS.out⟩⟩
    · obtain rfl : k = n := by omega
      have HLI := Lib.hid hli
      have HIS : Hid (letF l (texts R) [] = (l, texts Rs, false)) := Lib.hid (by rw [hli.is, List.drop_of_length_le (by rw [texts_len, ← HN.out]; exact Nat.le_refl _)]; rfl)
      have HLL : Hid (LN wr B u l) := Lib.hid (HLN.out.gr hli.gr)
      obtain ⟨m, hm⟩ : ∃ m, m = Rs.length := ⟨_, rfl⟩
      have HM := Lib.hid hm
      rw [← hm] at HLI ⊢
      obtain ⟨l0, l1, l2, l3, l4, l5, l6, l7⟩ := hli.a.all
      obtain ⟨z0, z1, z2, z3, z4, z5, z6, z7⟩ := hli.z.zero
      obtain ⟨f0, f1, f2, f3, f4, f5, f6, f7⟩ := hli.z.fz
      have HST : Hid (LBox (putU wr (w.heap.size + 1) u) (w.heap.size + 1) u ∧ LN (putU wr (w.heap.size + 1) u) B u l ∧ XO (putU wr (w.heap.size + 1) u) w.heap.size (.slice As m cs) Rs ∧ Gr w (putU wr (w.heap.size + 1) u)) := Lib.hid ⟨putU_box hli.z, HLL.out.kpL hli.z (putU_kp _ _ _), by
        have := own_kpL hli.row hli.z (by decide) (putU_kp _ _ u)
        rw [hm]; exact this, putU_gr hli.gr (Nat.le_succ _) u⟩
      clear hli hst hm hmc hc63
      go_wp2_with fail
      refine bodyPost_ret (v := .tuple #[.agg (lcells u), .slice As m cs, .bool false]) (by simp [results, Try.results32, go_sem, *]) rfl ⟨u, .slice As m cs, Rs, by rw [HIS.out], ?_⟩
      rw [HIS.out]
      exact ⟨HST.out.2.1, HST.out.2.2.1, HLI.out.ops, rfl, HST.out.2.2.2⟩
end Go.Proofs.Ytjpiemgpbakfaaa
