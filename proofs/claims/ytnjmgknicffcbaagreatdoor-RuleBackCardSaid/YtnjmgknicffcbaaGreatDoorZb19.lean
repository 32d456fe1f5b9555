/- Walks: which transactions may be: head, Check; the laws' waking. -/
import Derived.Test.YtnjmgknicffcbaaGreatDoorZb16
import Derived.Test.YtnjmgknicffcbaaGreatDoorZb06
namespace Go.Proofs.YtnjmgknicffcbaaGreatDoor
open Go.RowKit

def okHead (t : TX) : Prop := 0 ≤ t.origin ∧ t.origin < 8 ∧ 1 ≤ t.seq ∧ 1 ≤ t.stamp ∧ t.deps t.origin.toNat = t.seq - 1
instance (t : TX) : Decidable (okHead t) := by unfold okHead; infer_instance
def headB (t : TX) : Bool := decide (okHead t)
def okTx (t : TX) : Prop := okHead t ∧ 1 ≤ t.ops.length ∧ t.ops.length ≤ 8 ∧ ∀ o ∈ t.ops, okOp o t.origin
instance (t : TX) : Decidable (okTx t) := by unfold okTx; infer_instance
def checkN (t : TX) : Nat := if okTx t then 0 else 80
theorem check_yes {t : TX} (h : okTx t) : checkN t = 0 := if_pos h
theorem check_no {t : TX} (h : ¬ okTx t) : checkN t = 80 := if_neg h

set_option maxRecDepth 100000 in
set_option maxHeartbeats 4000000 in
theorem head_any (t : TX) (A : Option Addr) (n c : Nat) (hq : t.seq < 18446744073709551616) (w : World) :
    Calls Tryz.prog 116 #[.agg (tcs t (.slice A n c))] w fun e w' => e = .returned (.bool (headB t)) ∧ Gr w w' := by
  obtain ⟨W, hW, hg, hx⟩ := xbox w t (.slice A n c)
  have HX := Lib.hid hx
  have HG := Lib.hid hg
  by_cases h0 : t.origin < 0
  · have HF := Lib.hid (show headB t = false from decide_eq_false (fun h => by have := h.1; omega))
    clear hx hg hW HX HG
    go_enter Tryz.func116, Tryz.ntmps116
    go_wp2_with fail
    go_ret
    exact ⟨by rw [HF.out]; rfl, (Gr.refl _).alloc _⟩
  by_cases h8 : 8 ≤ t.origin
  · have HF := Lib.hid (show headB t = false from decide_eq_false (fun h => by have := h.2.1; omega))
    clear hx hg hW HX HG
    go_enter Tryz.func116, Tryz.ntmps116
    go_wp2_with fail
    go_ret
    exact ⟨by rw [HF.out]; rfl, (Gr.refl _).alloc _⟩
  have HS : Hid (XFix W.drew w.heap.size 0 t (.slice A n c) ∧ Gr W W.drew) := Lib.hid ⟨hx.gr (Gr.refl _).drew, (Gr.refl _).drew⟩
  by_cases h1 : 1 ≤ t.seq
  case neg =>
    have e1 : decide ((1 : Int) ≤ (t.seq : Int)) = false := decide_eq_false (by omega)
    have HF := Lib.hid (show headB t = false from decide_eq_false (fun h => by have := h.2.2.1; omega))
    clear hx hg HX h1
    go_enter Tryz.func116, Tryz.ntmps116
    go_upto_region 3 with (fail)
    rw [← hW]
    clear hW
    refine qRegion (fun w' => XFix w' w.heap.size 0 t (.slice A n c) ∧ Gr W w') (by kernel_rfl) (by kernel_rfl) HS.out ?_
    iterate 4
      refine qTake (by kernel_rfl) ?_
      apply Exists.intro
      refine ⟨fun wq hq => ?_, ?_⟩
      · go_light
        obtain ⟨⟨q0, q1, q2, q3, q4, q5, q6, q7, q8, q9, q10, q11⟩, -⟩ := hq
        go_simp
        try with_reducible rfl
        done
      try simp only [Act.put, List.setIfInBounds_toArray, List.set_cons_zero, List.set_cons_succ]
    iterate 3
      refine qSkip (by kernel_rfl) ?_
      try simp only [Act.put, List.setIfInBounds_toArray, List.set_cons_zero, List.set_cons_succ]
    iterate 2
      refine qTake (by kernel_rfl) ?_
      apply Exists.intro
      refine ⟨fun wq hq => ?_, ?_⟩
      · go_light
        obtain ⟨⟨q0, q1, q2, q3, q4, q5, q6, q7, q8, q9, q10, q11⟩, -⟩ := hq
        go_simp
        try with_reducible rfl
        done
      try simp only [Act.put, List.setIfInBounds_toArray, List.set_cons_zero, List.set_cons_succ]
    iterate 9
      refine qSkip (by kernel_rfl) ?_
      try simp only [Act.put, List.setIfInBounds_toArray, List.set_cons_zero, List.set_cons_succ]
    iterate 2
      refine qTake (by kernel_rfl) ?_
      apply Exists.intro
      refine ⟨fun wq hq => ?_, ?_⟩
      · go_light
        obtain ⟨⟨q0, q1, q2, q3, q4, q5, q6, q7, q8, q9, q10, q11⟩, -⟩ := hq
        go_simp
        try with_reducible rfl
        done
      try simp only [Act.put, List.setIfInBounds_toArray, List.set_cons_zero, List.set_cons_succ]
    refine qNil ?_
    intro w3 hC
    have HG3 := Lib.hid (HG.out.trans hC.2)
    clear hC HS
    go_wp2_with fail
    go_ret
    exact ⟨by rw [HF.out]; rfl, HG3.out⟩
  have e1 : decide ((1 : Int) ≤ (t.seq : Int)) = true := decide_eq_true (by omega)
  by_cases h2 : 1 ≤ t.stamp
  case neg =>
    have e2 : decide ((1 : Int) ≤ (t.stamp : Int)) = false := decide_eq_false (by omega)
    have HF := Lib.hid (show headB t = false from decide_eq_false (fun h => by have := h.2.2.2.1; omega))
    clear hx hg HX h1 h2
    go_enter Tryz.func116, Tryz.ntmps116
    go_upto_region 3 with (fail)
    rw [← hW]
    clear hW
    refine qRegion (fun w' => XFix w' w.heap.size 0 t (.slice A n c) ∧ Gr W w') (by kernel_rfl) (by kernel_rfl) HS.out ?_
    iterate 9
      refine qTake (by kernel_rfl) ?_
      apply Exists.intro
      refine ⟨fun wq hq => ?_, ?_⟩
      · go_light
        obtain ⟨⟨q0, q1, q2, q3, q4, q5, q6, q7, q8, q9, q10, q11⟩, -⟩ := hq
        go_simp
        try with_reducible rfl
        done
      try simp only [Act.put, List.setIfInBounds_toArray, List.set_cons_zero, List.set_cons_succ]
    iterate 9
      refine qSkip (by kernel_rfl) ?_
      try simp only [Act.put, List.setIfInBounds_toArray, List.set_cons_zero, List.set_cons_succ]
    iterate 2
      refine qTake (by kernel_rfl) ?_
      apply Exists.intro
      refine ⟨fun wq hq => ?_, ?_⟩
      · go_light
        obtain ⟨⟨q0, q1, q2, q3, q4, q5, q6, q7, q8, q9, q10, q11⟩, -⟩ := hq
        go_simp
        try with_reducible rfl
        done
      try simp only [Act.put, List.setIfInBounds_toArray, List.set_cons_zero, List.set_cons_succ]
    refine qNil ?_
    intro w3 hC
    have HG3 := Lib.hid (HG.out.trans hC.2)
    clear hC HS
    go_wp2_with fail
    go_ret
    exact ⟨by rw [HF.out]; rfl, HG3.out⟩
  have e2 : decide ((1 : Int) ≤ (t.stamp : Int)) = true := decide_eq_true (by omega)
  clear HS hx hg HX HG hW
  clear W
  obtain ⟨og, sq, st, dp, ops⟩ := t
  simp only [] at h0 h8 h1 h2 e1 e2 hq
  have hsq : IntKind.u64.wrap ((sq : Int) - 1) = (sq : Int) - 1 := by rw [IntKind.wrap_u64]; omega
  have h1' : (1 : Int) ≤ (sq : Int) := by omega
  obtain ⟨k, rfl⟩ : ∃ k : Nat, og = (k : Int) := ⟨og.toNat, by omega⟩
  have hk8 : k < 8 := by omega
  have hH : headB ⟨(k : Int), sq, st, dp, ops⟩ = decide (dp k = sq - 1) :=
    decide_eq_decide.2 ⟨fun h => h.2.2.2.2, fun h => ⟨by simp only []; omega, by simp only []; omega, h1, h2, h⟩⟩
  have hbq : ((dp k : Int) == (sq : Int) - 1) = decide (dp k = sq - 1) := by
    by_cases h : dp k = sq - 1
    · rw [decide_eq_true h]; exact int_beq_t (by omega)
    · rw [decide_eq_false h]; exact int_beq_f (by omega)
  obtain ⟨r, hr⟩ : ∃ r, r = decide (dp k = sq - 1) := ⟨_, rfl⟩
  rw [← hr] at hH hbq
  have hk0 : (0 : Int) ≤ (k : Int) := Int.natCast_nonneg _
  have hk8' : (k : Int) < 8 := by omega
  have hk8n : ¬ (8 : Int) ≤ (k : Int) := by omega
  have hk0n : ¬ (k : Int) < 0 := by omega
  have HF := Lib.hid hH
  obtain ⟨W, hW, hg, hx⟩ := xbox w ⟨(k : Int), sq, st, dp, ops⟩ (.slice A n c)
  have hx2 : W.cell? ⟨w.heap.size, 3 + k, none⟩ = some (.int .u64 (dp k : Int)) := by
    obtain ⟨q0, q1, q2, q3, q4, q5, q6, q7, q8, q9, q10, q11⟩ := hx
    match k, hk8 with
    | 0, _ => exact q3
    | 1, _ => exact q4
    | 2, _ => exact q5
    | 3, _ => exact q6
    | 4, _ => exact q7
    | 5, _ => exact q8
    | 6, _ => exact q9
    | 7, _ => exact q10
  have HG := Lib.hid hg
  have HS := Lib.hid (And.intro (hx.gr (Gr.refl _).drew) (And.intro ((Gr.refl W).drew.cell hx2) (Gr.refl W).drew))
  clear hr h0 h8 h1 h2 hH hx hx2 hg
  go_enter Tryz.func116, Tryz.ntmps116
  go_upto_region 3 with (fail)
  rw [← hW]
  clear hW
  refine qRegion (fun w' => XFix w' w.heap.size 0 ⟨(k : Int), sq, st, dp, ops⟩ (.slice A n c) ∧ w'.cell? ⟨w.heap.size, 3 + k, none⟩ = some (.int .u64 (dp k : Int)) ∧ Gr W w') (by kernel_rfl) (by kernel_rfl) HS.out ?_
  iterate 20
    refine qTake (by kernel_rfl) ?_
    apply Exists.intro
    refine ⟨fun wq hq => ?_, ?_⟩
    · go_light
      obtain ⟨⟨q0, q1, q2, q3, q4, q5, q6, q7, q8, q9, q10, q11⟩, q12, -⟩ := hq
      go_simp
      try with_reducible rfl
      done
    try simp only [Act.put, List.setIfInBounds_toArray, List.set_cons_zero, List.set_cons_succ]
  refine qNil ?_
  intro w3 hC
  have HG3 := Lib.hid (HG.out.trans hC.2.2)
  clear hC HS
  go_wp2_with fail
  go_ret
  exact ⟨by rw [HF.out]; rfl, HG3.out⟩
/-- A new box that holds an operation. -/
theorem obox (w : World) (o : TO) : ∃ W, W = w.alloc (.cells (tovs o) 52) ∧ Gr w W ∧ TCell W w.heap.size 0 o := by
  refine ⟨_, rfl, (Gr.refl w).alloc _, ?_⟩
  unfold TCell
  refine ⟨?_, ?_, ?_, ?_⟩ <;> (rw [World.cell?_alloc_at _ _ _ _ rfl]; rfl)
def CheckRel (t : TX) (w : World) (i : Value) (wr : World) : Prop := ∃ k : Nat, k ≤ t.ops.length ∧ i = .int .i64 k ∧ Gr w wr ∧ ∀ j (h1 : j < t.ops.length), j < k → okOp t.ops[j] t.origin
theorem opB_yes {o : TO} {m : Int} (h : opB o m = true) : okOp o m := of_decide_eq_true h
theorem opB_no {o : TO} {m : Int} (h : opB o m = false) : ¬ okOp o m := of_decide_eq_false h
theorem headB_yes {t : TX} (h : headB t = true) : okHead t := of_decide_eq_true h
theorem headB_no {t : TX} (h : headB t = false) : ¬ okHead t := of_decide_eq_false h

set_option maxRecDepth 100000 in
set_option maxHeartbeats 4000000 in
theorem check8_any (t : TX) (v : Value) (hq : t.seq < 18446744073709551616) (hks : ∀ o ∈ t.ops, o.key.size ≤ 9223372036854775807) (w : World) (hv : TOV w v t.ops) :
    Calls Tryz.prog 67 #[.agg (tcs t v)] w fun e w' => e = .returned (.int .i64 (checkN t : Int)) ∧ Gr w w' := by
  obtain ⟨A, c, rfl, l1, ⟨l2, _⟩, l3⟩ := hv
  have l2' : c ≤ 9223372036854775807 := l2
  have HH := Lib.hid (fun w1 => head_any t A t.ops.length c hq w1)
  have HKS := Lib.hid hks
  have HA := Lib.hid l3
  clear hks l3 hq l2
  obtain ⟨n, hn⟩ : ∃ n, n = t.ops.length := ⟨_, rfl⟩
  rw [← hn] at l1 HH ⊢
  have HN := Lib.hid hn
  clear hn
  obtain ⟨W, hW, hg, hx⟩ := xbox w t (.slice A n c)
  have HG := Lib.hid hg
  have HX := Lib.hid hx
  rcases hb : headB t with _ | _
  · rw [hb] at HH
    have HF := Lib.hid (show checkN t = 80 from check_no (fun h => headB_no hb h.1))
    obtain ⟨q0, q1, q2, q3, q4, q5, q6, q7, q8, q9, q10, q11⟩ := hx
    clear hb hg
    go_enter Tryz.func67, Tryz.ntmps67
    go_upto_region 1 with (fail)
    rw [← hW]
    clear hW
    go_wp2_with fail
    refine (HH.out _).mono ?_
    rintro e w1 ⟨rfl, g1⟩
    go_wp2_with fail
    go_ret
    exact ⟨by rw [HF.out]; rfl, HG.out.trans g1⟩
  rw [hb] at HH
  have HB := Lib.hid (headB_yes hb)
  clear hb hg
  by_cases h1 : 1 ≤ n
  case neg =>
    have HF := Lib.hid (show checkN t = 80 from check_no (fun h => h1 (by rw [HN.out]; exact h.2.1)))
    obtain ⟨q0, q1, q2, q3, q4, q5, q6, q7, q8, q9, q10, q11⟩ := hx
    go_enter Tryz.func67, Tryz.ntmps67
    go_upto_region 1 with (fail)
    rw [← hW]
    clear hW
    go_wp2_with fail
    refine (HH.out _).mono ?_
    rintro e w1 ⟨rfl, g1⟩
    have q := g1.cell q11
    go_wp2_with fail
    go_ret
    exact ⟨by rw [HF.out]; rfl, HG.out.trans g1⟩
  by_cases h8 : n ≤ 8
  case neg =>
    have HF := Lib.hid (show checkN t = 80 from check_no (fun h => h8 (by rw [HN.out]; exact h.2.2.1)))
    obtain ⟨q0, q1, q2, q3, q4, q5, q6, q7, q8, q9, q10, q11⟩ := hx
    go_enter Tryz.func67, Tryz.ntmps67
    go_upto_region 1 with (fail)
    rw [← hW]
    clear hW
    go_wp2_with fail
    refine (HH.out _).mono ?_
    rintro e w1 ⟨rfl, g1⟩
    have q := g1.cell q11
    go_wp2_with fail
    go_ret
    exact ⟨by rw [HF.out]; rfl, HG.out.trans g1⟩
  obtain ⟨q0, q1, q2, q3, q4, q5, q6, q7, q8, q9, q10, q11⟩ := hx
  go_enter Tryz.func67, Tryz.ntmps67
  go_upto_region 1 with (fail)
  rw [← hW]
  clear hW
  go_wp2_with fail
  refine (HH.out _).mono ?_
  rintro e w1 ⟨rfl, g1⟩
  have q := g1.cell q11
  have HG1 := Lib.hid g1
  clear q0 q1 q2 q3 q4 q5 q6 q7 q8 q9 q10 q11 g1
  go_wp2_with fail
  go_loopw [23] (fun i wr => CheckRel t w1 i wr) (fun i _ => n - (intOf i).toNat)
  case atStart => exact ⟨0, Nat.zero_le _, rfl, Gr.refl _, fun j _ h => absurd h (Nat.not_lt_zero _)⟩
  case round =>
    obtain ⟨k, hk, rfl, hgr, hkk⟩ := hrel
    rw [← HN.out] at hk
    have HK := Lib.hid hkk
    clear hkk
    by_cases hlt : k < n
    · have hkA : k < t.ops.length := by rw [← HN.out]; exact hlt
      obtain ⟨b, off, rfl, ha⟩ := HA.out k hkA
      obtain ⟨o, ho⟩ : ∃ f, f = t.ops[k] := ⟨_, rfl⟩
      rw [← ho] at ha
      have HC := Lib.hid (fun w2 => op8_any o t.origin (by rw [ho]; exact HKS.out _ (List.getElem_mem hkA)) w2)
      obtain ⟨a0, a1, a2, a3⟩ := ((ha.gr HG.out).gr HG1.out).gr hgr
      have hbx := hgr.cell (HG1.out.cell HX.out.1)
      obtain ⟨W2, hW2, hg2, hx2⟩ := obox wr o
      have hbx2 := hg2.cell hbx
      obtain ⟨c0, c1, c2, c3⟩ := hx2
      have HG2 := Lib.hid (hgr.trans hg2)
      rcases hp : opB o t.origin with _ | _
      · have HF := Lib.hid (show checkN t = 80 from check_no (fun h => opB_no hp (by rw [ho]; exact h.2.2.2 _ (List.getElem_mem hkA))))
        rw [hp] at HC
        clear ha ho hp hkA hgr hbx hg2
        go_upto_region 6 with (fail)
        rw [show (#[Value.int .i64 o.kind, .string o.key, .string o.elem, .int .i64 o.n] : Array Value) = tovs o from rfl, ← hW2]
        clear hW2 a0 a1 a2 a3
        go_wp2_with fail
        refine (HC.out _).mono ?_
        rintro e w3 ⟨rfl, g3⟩
        go_wp2_with fail
        go_ret
        exact ⟨by rw [HF.out]; rfl, (HG.out.trans HG1.out).trans (HG2.out.trans g3)⟩
      · have HS : Hid (∀ j (h1 : j < t.ops.length), j < k + 1 → okOp t.ops[j] t.origin) := Lib.hid (fun j h1 hj => by
          by_cases e : j = k
          · subst e; rw [← ho]; exact opB_yes hp
          · exact HK.out j h1 (by omega))
        rw [hp] at HC
        clear ha ho hp hkA hgr hbx hg2
        go_upto_region 6 with (fail)
        rw [show (#[Value.int .i64 o.kind, .string o.key, .string o.elem, .int .i64 o.n] : Array Value) = tovs o from rfl, ← hW2]
        clear hW2 a0 a1 a2 a3
        go_wp2_with fail
        refine (HC.out _).mono ?_
        rintro e w3 ⟨rfl, g3⟩
        go_wp2_with fail
        go_roundw
        case rel => exact ⟨k + 1, by rw [← HN.out]; omega, by go_num, HG2.out.trans g3, HS.out⟩
        case measure => simp [intOf]; omega
    · have HF := Lib.hid (show checkN t = 0 from check_yes ⟨HB.out, by rw [← HN.out]; omega, by rw [← HN.out]; omega, fun o ho => by
        obtain ⟨j, hj, rfl⟩ := List.mem_iff_getElem.1 ho
        exact HK.out j hj (by rw [← HN.out] at hj; omega)⟩)
      go_wp2_with fail
      go_ret
      exact ⟨by rw [HF.out]; rfl, (HG.out.trans HG1.out).trans hgr⟩
end Go.Proofs.YtnjmgknicffcbaaGreatDoor
