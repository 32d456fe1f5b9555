/- Walks: which transactions may be: head, Check; the laws' waking. Walks over package vec: Join, Meet. -/
import Derived.Test.YtnjmgknicffcbaaGreatDoorZr04
import Derived.Test.YtnjmgknicffcbaaGreatDoorZr02
import Derived.StillTailTactics
import Derived.Lib.SmallJoins
namespace Go.Proofs.YtnjmgknicffcbaaGreatDoor
open Go.RowKit

def okHead (t : TX) : Prop := 0 ≤ t.origin ∧ t.origin < 8 ∧ 1 ≤ t.seq ∧ 1 ≤ t.stamp ∧ t.deps t.origin.toNat = t.seq - 1
instance (t : TX) : Decidable (okHead t) := by unfold okHead; infer_instance
def headB (t : TX) : Bool := decide (okHead t)
def okTx (t : TX) : Prop := okHead t ∧ 1 ≤ t.ops.length ∧ t.ops.length ≤ 8 ∧ ∀ o ∈ t.ops, okOp o t.origin
instance (t : TX) : Decidable (okTx t) := by unfold okTx; infer_instance
def checkN (t : TX) : Nat := if okTx t then 0 else 80
theorem check_yes {t : TX} (h : okTx t) : checkN t = 0 := if_pos h
theorem check_no {t : TX} (h : ¬ okTx t) : checkN t = 80 := if_neg h

set_option maxRecDepth 100000 in
set_option maxHeartbeats 4000000 in
theorem head_any (t : TX) (A : Option Addr) (n c : Nat) (hq : t.seq < 18446744073709551616) (w : World) :
    Calls Tryz.prog 116 #[.agg (tcs t (.slice A n c))] w fun e w' => e = .returned (.bool (headB t)) ∧ Gr w w' := by
  obtain ⟨W, hW, hg, hx⟩ := xbox w t (.slice A n c)
  have HX := Lib.hid hx
  have HG := Lib.hid hg
  by_cases h0 : t.origin < 0
  · have HF := Lib.hid (show headB t = false from decide_eq_false (fun h => by have := h.1; omega))
    clear hx hg hW HX HG
    go_enter Tryz.func116, Tryz.ntmps116
    go_wp2_with fail
    go_ret
    exact ⟨by rw [HF.out]; rfl, (Gr.refl _).alloc _⟩
  by_cases h8 : 8 ≤ t.origin
  · have HF := Lib.hid (show headB t = false from decide_eq_false (fun h => by have := h.2.1; omega))
    clear hx hg hW HX HG
    go_enter Tryz.func116, Tryz.ntmps116
    go_wp2_with fail
    go_ret
    exact ⟨by rw [HF.out]; rfl, (Gr.refl _).alloc _⟩
  have HS : Hid (XFix W.drew w.heap.size 0 t (.slice A n c) ∧ Gr W W.drew) := Lib.hid ⟨hx.gr (Gr.refl _).drew, (Gr.refl _).drew⟩
  by_cases h1 : 1 ≤ t.seq
  case neg =>
    have e1 : decide ((1 : Int) ≤ (t.seq : Int)) = false := decide_eq_false (by omega)
    have HF := Lib.hid (show headB t = false from decide_eq_false (fun h => by have := h.2.2.1; omega))
    clear hx hg HX h1
    go_enter Tryz.func116, Tryz.ntmps116
    go_upto_region 3 with (fail)
    rw [← hW]
    clear hW
    refine qRegion (fun w' => XFix w' w.heap.size 0 t (.slice A n c) ∧ Gr W w') (by kernel_rfl) (by kernel_rfl) HS.out ?_
    iterate 4
      refine qTake (by kernel_rfl) ?_
      apply Exists.intro
      refine ⟨fun wq hq => ?_, ?_⟩
      · go_light
        obtain ⟨⟨q0, q1, q2, q3, q4, q5, q6, q7, q8, q9, q10, q11⟩, -⟩ := hq
        go_simp
        try with_reducible rfl
        done
      try simp only [Act.put, List.setIfInBounds_toArray, List.set_cons_zero, List.set_cons_succ]
    iterate 3
      refine qSkip (by kernel_rfl) ?_
      try simp only [Act.put, List.setIfInBounds_toArray, List.set_cons_zero, List.set_cons_succ]
    iterate 2
      refine qTake (by kernel_rfl) ?_
      apply Exists.intro
      refine ⟨fun wq hq => ?_, ?_⟩
      · go_light
        obtain ⟨⟨q0, q1, q2, q3, q4, q5, q6, q7, q8, q9, q10, q11⟩, -⟩ := hq
        go_simp
        try with_reducible rfl
        done
      try simp only [Act.put, List.setIfInBounds_toArray, List.set_cons_zero, List.set_cons_succ]
    iterate 9
      refine qSkip (by kernel_rfl) ?_
      try simp only [Act.put, List.setIfInBounds_toArray, List.set_cons_zero, List.set_cons_succ]
    iterate 2
      refine qTake (by kernel_rfl) ?_
      apply Exists.intro
      refine ⟨fun wq hq => ?_, ?_⟩
      · go_light
        obtain ⟨⟨q0, q1, q2, q3, q4, q5, q6, q7, q8, q9, q10, q11⟩, -⟩ := hq
        go_simp
        try with_reducible rfl
        done
      try simp only [Act.put, List.setIfInBounds_toArray, List.set_cons_zero, List.set_cons_succ]
    refine qNil ?_
    intro w3 hC
    have HG3 := Lib.hid (HG.out.trans hC.2)
    clear hC HS
    go_wp2_with fail
    go_ret
    exact ⟨by rw [HF.out]; rfl, HG3.out⟩
  have e1 : decide ((1 : Int) ≤ (t.seq : Int)) = true := decide_eq_true (by omega)
  by_cases h2 : 1 ≤ t.stamp
  case neg =>
    have e2 : decide ((1 : Int) ≤ (t.stamp : Int)) = false := decide_eq_false (by omega)
    have HF := Lib.hid (show headB t = false from decide_eq_false (fun h => by have := h.2.2.2.1; omega))
    clear hx hg HX h1 h2
    go_enter Tryz.func116, Tryz.ntmps116
    go_upto_region 3 with (fail)
    rw [← hW]
    clear hW
    refine qRegion (fun w' => XFix w' w.heap.size 0 t (.slice A n c) ∧ Gr W w') (by kernel_rfl) (by kernel_rfl) HS.out ?_
    iterate 9
      refine qTake (by kernel_rfl) ?_
      apply Exists.intro
      refine ⟨fun wq hq => ?_, ?_⟩
      · go_light
        obtain ⟨⟨q0, q1, q2, q3, q4, q5, q6, q7, q8, q9, q10, q11⟩, -⟩ := hq
        go_simp
        try with_reducible rfl
        done
      try simp only [Act.put, List.setIfInBounds_toArray, List.set_cons_zero, List.set_cons_succ]
    iterate 9
      refine qSkip (by kernel_rfl) ?_
      try simp only [Act.put, List.setIfInBounds_toArray, List.set_cons_zero, List.set_cons_succ]
    iterate 2
      refine qTake (by kernel_rfl) ?_
      apply Exists.intro
      refine ⟨fun wq hq => ?_, ?_⟩
      · go_light
        obtain ⟨⟨q0, q1, q2, q3, q4, q5, q6, q7, q8, q9, q10, q11⟩, -⟩ := hq
        go_simp
        try with_reducible rfl
        done
      try simp only [Act.put, List.setIfInBounds_toArray, List.set_cons_zero, List.set_cons_succ]
    refine qNil ?_
    intro w3 hC
    have HG3 := Lib.hid (HG.out.trans hC.2)
    clear hC HS
    go_wp2_with fail
    go_ret
    exact ⟨by rw [HF.out]; rfl, HG3.out⟩
  have e2 : decide ((1 : Int) ≤ (t.stamp : Int)) = true := decide_eq_true (by omega)
  clear HS hx hg HX HG hW
  clear W
  obtain ⟨og, sq, st, dp, ops⟩ := t
  simp only [] at h0 h8 h1 h2 e1 e2 hq
  have hsq : IntKind.u64.wrap ((sq : Int) - 1) = (sq : Int) - 1 := by rw [IntKind.wrap_u64]; omega
  have h1' : (1 : Int) ≤ (sq : Int) := by omega
  obtain ⟨k, rfl⟩ : ∃ k : Nat, og = (k : Int) := ⟨og.toNat, by omega⟩
  have hk8 : k < 8 := by omega
  have hH : headB ⟨(k : Int), sq, st, dp, ops⟩ = decide (dp k = sq - 1) :=
    decide_eq_decide.2 ⟨fun h => h.2.2.2.2, fun h => ⟨by simp only []; omega, by simp only []; omega, h1, h2, h⟩⟩
  have hbq : ((dp k : Int) == (sq : Int) - 1) = decide (dp k = sq - 1) := by
    by_cases h : dp k = sq - 1
    · rw [decide_eq_true h]; exact int_beq_t (by omega)
    · rw [decide_eq_false h]; exact int_beq_f (by omega)
  obtain ⟨r, hr⟩ : ∃ r, r = decide (dp k = sq - 1) := ⟨_, rfl⟩
  rw [← hr] at hH hbq
  have hk0 : (0 : Int) ≤ (k : Int) := Int.natCast_nonneg _
  have hk8' : (k : Int) < 8 := by omega
  have hk8n : ¬ (8 : Int) ≤ (k : Int) := by omega
  have hk0n : ¬ (k : Int) < 0 := by omega
  have HF := Lib.hid hH
  obtain ⟨W, hW, hg, hx⟩ := xbox w ⟨(k : Int), sq, st, dp, ops⟩ (.slice A n c)
  have hx2 : W.cell? ⟨w.heap.size, 3 + k, none⟩ = some (.int .u64 (dp k : Int)) := by
    obtain ⟨q0, q1, q2, q3, q4, q5, q6, q7, q8, q9, q10, q11⟩ := hx
    match k, hk8 with
    | 0, _ => exact q3
    | 1, _ => exact q4
    | 2, _ => exact q5
    | 3, _ => exact q6
    | 4, _ => exact q7
    | 5, _ => exact q8
    | 6, _ => exact q9
    | 7, _ => exact q10
  have HG := Lib.hid hg
  have HS := Lib.hid (And.intro (hx.gr (Gr.refl _).drew) (And.intro ((Gr.refl W).drew.cell hx2) (Gr.refl W).drew))
  clear hr h0 h8 h1 h2 hH hx hx2 hg
  go_enter Tryz.func116, Tryz.ntmps116
  go_upto_region 3 with (fail)
  rw [← hW]
  clear hW
  refine qRegion (fun w' => XFix w' w.heap.size 0 ⟨(k : Int), sq, st, dp, ops⟩ (.slice A n c) ∧ w'.cell? ⟨w.heap.size, 3 + k, none⟩ = some (.int .u64 (dp k : Int)) ∧ Gr W w') (by kernel_rfl) (by kernel_rfl) HS.out ?_
  iterate 20
    refine qTake (by kernel_rfl) ?_
    apply Exists.intro
    refine ⟨fun wq hq => ?_, ?_⟩
    · go_light
      obtain ⟨⟨q0, q1, q2, q3, q4, q5, q6, q7, q8, q9, q10, q11⟩, q12, -⟩ := hq
      go_simp
      try with_reducible rfl
      done
    try simp only [Act.put, List.setIfInBounds_toArray, List.set_cons_zero, List.set_cons_succ]
  refine qNil ?_
  intro w3 hC
  have HG3 := Lib.hid (HG.out.trans hC.2.2)
  clear hC HS
  go_wp2_with fail
  go_ret
  exact ⟨by rw [HF.out]; rfl, HG3.out⟩
/-- A new box that holds an operation. -/
theorem obox (w : World) (o : TO) : ∃ W, W = w.alloc (.cells (tovs o) 52) ∧ Gr w W ∧ TCell W w.heap.size 0 o := by
  refine ⟨_, rfl, (Gr.refl w).alloc _, ?_⟩
  unfold TCell
  refine ⟨?_, ?_, ?_, ?_⟩ <;> (rw [World.cell?_alloc_at _ _ _ _ rfl]; rfl)
def CheckRel (t : TX) (w : World) (i : Value) (wr : World) : Prop := ∃ k : Nat, k ≤ t.ops.length ∧ i = .int .i64 k ∧ Gr w wr ∧ ∀ j (h1 : j < t.ops.length), j < k → okOp t.ops[j] t.origin
theorem opB_yes {o : TO} {m : Int} (h : opB o m = true) : okOp o m := of_decide_eq_true h
theorem opB_no {o : TO} {m : Int} (h : opB o m = false) : ¬ okOp o m := of_decide_eq_false h
theorem headB_yes {t : TX} (h : headB t = true) : okHead t := of_decide_eq_true h
theorem headB_no {t : TX} (h : headB t = false) : ¬ okHead t := of_decide_eq_false h

set_option maxRecDepth 100000 in
set_option maxHeartbeats 4000000 in
theorem check8_any (t : TX) (v : Value) (hq : t.seq < 18446744073709551616) (hks : ∀ o ∈ t.ops, o.key.size ≤ 9223372036854775807) (w : World) (hv : TOV w v t.ops) :
    Calls Tryz.prog 67 #[.agg (tcs t v)] w fun e w' => e = .returned (.int .i64 (checkN t : Int)) ∧ Gr w w' := by
  obtain ⟨A, c, rfl, l1, ⟨l2, _⟩, l3⟩ := hv
  have l2' : c ≤ 9223372036854775807 := l2
  have HH := Lib.hid (fun w1 => head_any t A t.ops.length c hq w1)
  have HKS := Lib.hid hks
  have HA := Lib.hid l3
  clear hks l3 hq l2
  obtain ⟨n, hn⟩ : ∃ n, n = t.ops.length := ⟨_, rfl⟩
  rw [← hn] at l1 HH ⊢
  have HN := Lib.hid hn
  clear hn
  obtain ⟨W, hW, hg, hx⟩ := xbox w t (.slice A n c)
  have HG := Lib.hid hg
  have HX := Lib.hid hx
  rcases hb : headB t with _ | _
  · rw [hb] at HH
    have HF := Lib.hid (show checkN t = 80 from check_no (fun h => headB_no hb h.1))
    obtain ⟨q0, q1, q2, q3, q4, q5, q6, q7, q8, q9, q10, q11⟩ := hx
    clear hb hg
    go_enter Tryz.func67, Tryz.ntmps67
    go_upto_region 1 with (fail)
    rw [← hW]
    clear hW
    go_wp2_with fail
    refine (HH.out _).mono ?_
    rintro e w1 ⟨rfl, g1⟩
    go_wp2_with fail
    go_ret
    exact ⟨by rw [HF.out]; rfl, HG.out.trans g1⟩
  rw [hb] at HH
  have HB := Lib.hid (headB_yes hb)
  clear hb hg
  by_cases h1 : 1 ≤ n
  case neg =>
    have HF := Lib.hid (show checkN t = 80 from check_no (fun h => h1 (by rw [HN.out]; exact h.2.1)))
    obtain ⟨q0, q1, q2, q3, q4, q5, q6, q7, q8, q9, q10, q11⟩ := hx
    go_enter Tryz.func67, Tryz.ntmps67
    go_upto_region 1 with (fail)
    rw [← hW]
    clear hW
    go_wp2_with fail
    refine (HH.out _).mono ?_
    rintro e w1 ⟨rfl, g1⟩
    have q := g1.cell q11
    go_wp2_with fail
    go_ret
    exact ⟨by rw [HF.out]; rfl, HG.out.trans g1⟩
  by_cases h8 : n ≤ 8
  case neg =>
    have HF := Lib.hid (show checkN t = 80 from check_no (fun h => h8 (by rw [HN.out]; exact h.2.2.1)))
    obtain ⟨q0, q1, q2, q3, q4, q5, q6, q7, q8, q9, q10, q11⟩ := hx
    go_enter Tryz.func67, Tryz.ntmps67
    go_upto_region 1 with (fail)
    rw [← hW]
    clear hW
    go_wp2_with fail
    refine (HH.out _).mono ?_
    rintro e w1 ⟨rfl, g1⟩
    have q := g1.cell q11
    go_wp2_with fail
    go_ret
    exact ⟨by rw [HF.out]; rfl, HG.out.trans g1⟩
  obtain ⟨q0, q1, q2, q3, q4, q5, q6, q7, q8, q9, q10, q11⟩ := hx
  go_enter Tryz.func67, Tryz.ntmps67
  go_upto_region 1 with (fail)
  rw [← hW]
  clear hW
  go_wp2_with fail
  refine (HH.out _).mono ?_
  rintro e w1 ⟨rfl, g1⟩
  have q := g1.cell q11
  have HG1 := Lib.hid g1
  clear q0 q1 q2 q3 q4 q5 q6 q7 q8 q9 q10 q11 g1
  go_wp2_with fail
  go_loopw [23] (fun i wr => CheckRel t w1 i wr) (fun i _ => n - (intOf i).toNat)
  case atStart => exact ⟨0, Nat.zero_le _, rfl, Gr.refl _, fun j _ h => absurd h (Nat.not_lt_zero _)⟩
  case round =>
    obtain ⟨k, hk, rfl, hgr, hkk⟩ := hrel
    rw [← HN.out] at hk
    have HK := Lib.hid hkk
    clear hkk
    by_cases hlt : k < n
    · have hkA : k < t.ops.length := by rw [← HN.out]; exact hlt
      obtain ⟨b, off, rfl, ha⟩ := HA.out k hkA
      obtain ⟨o, ho⟩ : ∃ f, f = t.ops[k] := ⟨_, rfl⟩
      rw [← ho] at ha
      have HC := Lib.hid (fun w2 => op8_any o t.origin (by rw [ho]; exact HKS.out _ (List.getElem_mem hkA)) w2)
      obtain ⟨a0, a1, a2, a3⟩ := ((ha.gr HG.out).gr HG1.out).gr hgr
      have hbx := hgr.cell (HG1.out.cell HX.out.1)
      obtain ⟨W2, hW2, hg2, hx2⟩ := obox wr o
      have hbx2 := hg2.cell hbx
      obtain ⟨c0, c1, c2, c3⟩ := hx2
      have HG2 := Lib.hid (hgr.trans hg2)
      rcases hp : opB o t.origin with _ | _
      · have HF := Lib.hid (show checkN t = 80 from check_no (fun h => opB_no hp (by rw [ho]; exact h.2.2.2 _ (List.getElem_mem hkA))))
        rw [hp] at HC
        clear ha ho hp hkA hgr hbx hg2
        go_upto_region 6 with (fail)
        rw [show (#[Value.int .i64 o.kind, .string o.key, .string o.elem, .int .i64 o.n] : Array Value) = tovs o from rfl, ← hW2]
        clear hW2 a0 a1 a2 a3
        go_wp2_with fail
        refine (HC.out _).mono ?_
        rintro e w3 ⟨rfl, g3⟩
        go_wp2_with fail
        go_ret
        exact ⟨by rw [HF.out]; rfl, (HG.out.trans HG1.out).trans (HG2.out.trans g3)⟩
      · have HS : Hid (∀ j (h1 : j < t.ops.length), j < k + 1 → okOp t.ops[j] t.origin) := Lib.hid (fun j h1 hj => by
          by_cases e : j = k
          · subst e; rw [← ho]; exact opB_yes hp
          · exact HK.out j h1 (by omega))
        rw [hp] at HC
        clear ha ho hp hkA hgr hbx hg2
        go_upto_region 6 with (fail)
        rw [show (#[Value.int .i64 o.kind, .string o.key, .string o.elem, .int .i64 o.n] : Array Value) = tovs o from rfl, ← hW2]
        clear hW2 a0 a1 a2 a3
        go_wp2_with fail
        refine (HC.out _).mono ?_
        rintro e w3 ⟨rfl, g3⟩
        go_wp2_with fail
        go_roundw
        case rel => exact ⟨k + 1, by rw [← HN.out]; omega, by go_num, HG2.out.trans g3, HS.out⟩
        case measure => simp [intOf]; omega
    · have HF := Lib.hid (show checkN t = 0 from check_yes ⟨HB.out, by rw [← HN.out]; omega, by rw [← HN.out]; omega, fun o ho => by
        obtain ⟨j, hj, rfl⟩ := List.mem_iff_getElem.1 ho
        exact HK.out j hj (by rw [← HN.out] at hj; omega)⟩)
      go_wp2_with fail
      go_ret
      exact ⟨by rw [HF.out]; rfl, (HG.out.trans HG1.out).trans hgr⟩
end Go.Proofs.YtnjmgknicffcbaaGreatDoor
namespace Go.Proofs.YtnjmgknicffcbaaGreatDoor
open Go.RowKit Go.Joins

def upd (f : Nat → Nat) (k v : Nat) : Nat → Nat := fun i => if i = k then v else f i
theorem vcells_upd (f : Nat → Nat) {k : Nat} (hk : k < 8) (v : Nat) : (vcells f).setIfInBounds k (.int .u64 (v : Int)) = vcells (upd f k v) := by
  match k, hk with
  | 0, _ => rfl
  | 1, _ => rfl
  | 2, _ => rfl
  | 3, _ => rfl
  | 4, _ => rfl
  | 5, _ => rfl
  | 6, _ => rfl
  | 7, _ => rfl
/-- The greater numbers; up to k. -/
def jn (a b : Nat → Nat) : Nat → Nat := fun i => max (a i) (b i)
def jnTo (a b : Nat → Nat) (k : Nat) : Nat → Nat := fun i => if i < k then max (a i) (b i) else a i
/-- What a call that makes a vector out of two has in memory. -/
def TwoRel (f : Nat → Nat → Nat) (b : Nat → Nat) (w : World) (i : Value) (wr : World) : Prop :=
  ∃ k : Nat, k ≤ 8 ∧ i = .int .i64 k ∧ wr.heap[w.heap.size]? = some (.cells (vcells (f k)) 28 (0, 0)) ∧ wr.heap[w.heap.size + 1]? = some (.cells (vcells b) 28 (0, 0)) ∧
    wr.heap[w.heap.size + 1 + 1]? = some (.cells (vcells (fun _ => 0)) 28 (0, 0)) ∧ Gr w wr

theorem boxes3 (a b : Nat → Nat) (w : World) : ∃ W, W = ((w.alloc (.cells (vcells a) 28)).alloc (.cells (vcells b) 28)).alloc (.cells #[.int .u64 0, .int .u64 0, .int .u64 0, .int .u64 0, .int .u64 0, .int .u64 0, .int .u64 0, .int .u64 0] 28) ∧ Gr w W ∧
    W.heap[w.heap.size]? = some (.cells (vcells a) 28 (0, 0)) ∧ W.heap[w.heap.size + 1]? = some (.cells (vcells b) 28 (0, 0)) ∧ W.heap[w.heap.size + 1 + 1]? = some (.cells (vcells (fun _ => 0)) 28 (0, 0)) := by
  refine ⟨_, rfl, (Gr.refl w |>.alloc _ |>.alloc _ |>.alloc _), ?_, ?_, ?_⟩
  all_goals (simp only [World.alloc, Array.getElem?_push, Array.size_push]; simp)
  omega
theorem Gr.setCell {a b : World} (h : Gr a b) {p : Addr} (hp : a.heap.size ≤ p.block) (v : Value) : Gr a (b.setCell p v) := Below.setCell h hp v
theorem jnTo_succ (a b : Nat → Nat) (k : Nat) : upd (jnTo a b k) k (max (a k) (b k)) = jnTo a b (k + 1) := by
  funext i
  simp only [upd, jnTo]
  by_cases h : i = k
  · subst h; simp
  · rw [if_neg h]
    by_cases h2 : i < k
    · rw [if_pos h2, if_pos (by omega)]
    · rw [if_neg h2, if_neg (by omega)]
theorem jnTo_at (a b : Nat → Nat) (k : Nat) : jnTo a b k k = a k := by simp [jnTo]
/-- The lesser numbers; up to k. -/
def mt (a b : Nat → Nat) : Nat → Nat := fun i => min (a i) (b i)
def mtTo (a b : Nat → Nat) (k : Nat) : Nat → Nat := fun i => if i < k then min (a i) (b i) else a i
theorem mtTo_succ (a b : Nat → Nat) (k : Nat) : upd (mtTo a b k) k (min (a k) (b k)) = mtTo a b (k + 1) := by
  funext i
  simp only [upd, mtTo]
  by_cases h : i = k
  · subst h; simp
  · rw [if_neg h]
    by_cases h2 : i < k
    · rw [if_pos h2, if_pos (by omega)]
    · rw [if_neg h2, if_neg (by omega)]
theorem mtTo_at (a b : Nat → Nat) (k : Nat) : mtTo a b k k = a k := by simp [mtTo]
theorem mtTo_stay (a b : Nat → Nat) (k : Nat) (h : a k ≤ b k) : mtTo a b k = mtTo a b (k + 1) := by
  rw [← mtTo_succ, Nat.min_eq_left h]
  funext i
  simp only [upd]
  split
  · next h => subst h; exact mtTo_at a b i
  · rfl
theorem max_if (x y : Nat) : (if x < y then (y : Int) else (x : Int)) = ((max x y : Nat) : Int) := by
  split <;> omega
theorem TwoRel.next {f : Nat → Nat → Nat} {b : Nat → Nat} {w wr : World} {k v : Nat} (hlt : k < 8) (hA : wr.heap[w.heap.size]? = some (.cells (vcells (f k)) 28 (0, 0))) (hB : wr.heap[w.heap.size + 1]? = some (.cells (vcells b) 28 (0, 0)))
    (hC : wr.heap[w.heap.size + 1 + 1]? = some (.cells (vcells (fun _ => 0)) 28 (0, 0))) (hg : Gr w wr) (hu : upd (f k) k v = f (k + 1)) (x : Int) (hx : x = (v : Int)) (i : Value) (hi : i = .int .i64 ((k + 1 : Nat) : Int)) :
    TwoRel f b w i (wr.setCell ⟨w.heap.size, k, none⟩ (.int .u64 x)).drew := by
  subst hx
  refine ⟨k + 1, by omega, hi, ?_, ?_, ?_, (Gr.setCell hg (by simp) _).drew⟩
  · show (wr.setCell ⟨w.heap.size, k, none⟩ (.int .u64 v)).heap[w.heap.size]? = _
    rw [block_setCell hA, vcells_upd _ hlt, hu]
  · show (wr.setCell ⟨w.heap.size, k, none⟩ (.int .u64 v)).heap[w.heap.size + 1]? = _
    rw [Go.Deep.blk_setCell_other _ _ _ _ (by simp)]; exact hB
  · show (wr.setCell ⟨w.heap.size, k, none⟩ (.int .u64 v)).heap[w.heap.size + 1 + 1]? = _
    rw [Go.Deep.blk_setCell_other _ _ _ _ (by simp; omega)]; exact hC

theorem TwoRel.stay {f : Nat → Nat → Nat} {b : Nat → Nat} {w wr : World} {k n : Nat} (hlt : k < 8) (hA : wr.heap[w.heap.size]? = some (.cells (vcells (f k)) 28 (0, 0))) (hB : wr.heap[w.heap.size + 1]? = some (.cells (vcells b) 28 (0, 0)))
    (hC : wr.heap[w.heap.size + 1 + 1]? = some (.cells (vcells (fun _ => 0)) 28 (0, 0))) (hg : Gr w wr) (hu : f k = f (k + 1)) (i : Value) (hi : i = .int .i64 ((k + 1 : Nat) : Int)) :
    TwoRel f b w i (wr.drewN n) :=
  ⟨k + 1, by omega, hi, by rw [← hu]; exact hA, hB, hC, hg.drewN n⟩
theorem TwoRel.next' {f : Nat → Nat → Nat} {b : Nat → Nat} {w wr : World} {k v n : Nat} (hlt : k < 8) (hA : wr.heap[w.heap.size]? = some (.cells (vcells (f k)) 28 (0, 0))) (hB : wr.heap[w.heap.size + 1]? = some (.cells (vcells b) 28 (0, 0)))
    (hC : wr.heap[w.heap.size + 1 + 1]? = some (.cells (vcells (fun _ => 0)) 28 (0, 0))) (hg : Gr w wr) (hu : upd (f k) k v = f (k + 1)) (i : Value) (hi : i = .int .i64 ((k + 1 : Nat) : Int)) :
    TwoRel f b w i ((wr.setCell ⟨w.heap.size, k, none⟩ (.int .u64 (v : Int))).drewN n) := by
  obtain ⟨k', h1, h2, h3, h4, h5, h6⟩ := TwoRel.next hlt hA hB hC hg hu _ rfl i hi
  exact ⟨k', h1, h2, h3, h4, h5, (Gr.setCell hg (by simp) _).drewN n⟩

set_option maxRecDepth 100000 in
theorem join_any (a b : Nat → Nat) (w : World) :
    Calls Tryz.prog 203 #[.agg (vcells a), .agg (vcells b)] w fun e w' => e = .returned (.agg (vcells (jn a b))) ∧ Gr w w' := by
  obtain ⟨W, hW, hg, hA, hB, hC⟩ := boxes3 a b w
  go_enter Tryz.func203, Tryz.ntmps203
  go_wp2_with fail
  rw [← hW]
  clear hW
  go_loopw [6] (fun i wr => TwoRel (jnTo a b) b w i wr) (fun i _ => 8 - (intOf i).toNat)
  case atStart => exact ⟨0, by decide, rfl, hA, hB, hC, hg⟩
  case round =>
    clear hA hB hC hg
    obtain ⟨k, hk, rfl, hA, hB, hC, hg⟩ := hrel
    by_cases hlt : k < 8
    · have hca : wr.cell? ⟨w.heap.size, k, none⟩ = some (.int .u64 (a k : Int)) := by
        rw [cell_of_block hA, vcells_at _ hlt, jnTo_at]
      have hfa : wr.frozen? ⟨w.heap.size, k, none⟩ = false := unfrozen_of_block hA k
      have hcb : wr.cell? ⟨w.heap.size + 1, k, none⟩ = some (.int .u64 (b k : Int)) := by
        rw [cell_of_block hB, vcells_at _ hlt]
      have hk0 : (0 : Int) ≤ (k : Int) := Int.natCast_nonneg _
      have hk8 : (k : Int) < 8 := by omega
      go_wp2_with fail
      go_still_tail 9, (by kernel_rfl)
      go_wp2_with fail
      exact ⟨TwoRel.next (f := jnTo a b) hlt hA hB hC hg (jnTo_succ a b k) _ (max_if _ _) _ (by go_num), by simp [intOf]; omega⟩
    · obtain rfl : k = 8 := by omega
      have c0 : wr.cell? ⟨w.heap.size, 0, none⟩ = some (.int .u64 (jn a b 0 : Int)) := by rw [cell_of_block hA]; rfl
      have c1 : wr.cell? ⟨w.heap.size, 1, none⟩ = some (.int .u64 (jn a b 1 : Int)) := by rw [cell_of_block hA]; rfl
      have c2 : wr.cell? ⟨w.heap.size, 2, none⟩ = some (.int .u64 (jn a b 2 : Int)) := by rw [cell_of_block hA]; rfl
      have c3 : wr.cell? ⟨w.heap.size, 3, none⟩ = some (.int .u64 (jn a b 3 : Int)) := by rw [cell_of_block hA]; rfl
      have c4 : wr.cell? ⟨w.heap.size, 4, none⟩ = some (.int .u64 (jn a b 4 : Int)) := by rw [cell_of_block hA]; rfl
      have c5 : wr.cell? ⟨w.heap.size, 5, none⟩ = some (.int .u64 (jn a b 5 : Int)) := by rw [cell_of_block hA]; rfl
      have c6 : wr.cell? ⟨w.heap.size, 6, none⟩ = some (.int .u64 (jn a b 6 : Int)) := by rw [cell_of_block hA]; rfl
      have c7 : wr.cell? ⟨w.heap.size, 7, none⟩ = some (.int .u64 (jn a b 7 : Int)) := by rw [cell_of_block hA]; rfl
      have hle : w.heap.size ≤ w.heap.size + 1 + 1 := by omega
      have hz : w.heap.size + 1 + 1 < wr.heap.size := (Array.getElem?_eq_some_iff.1 hC).1
      have hf : ∀ i, wr.frozen? ⟨w.heap.size + 1 + 1, i, none⟩ = false := fun i => unfrozen_of_block hC i
      have hs : ∀ i : Fin 8, wr.cell? ⟨w.heap.size + 1 + 1, i.val, none⟩ = some (.int .u64 0) := fun i => by rw [cell_of_block hC, vcells_at _ i.isLt]; rfl
      have s0 : wr.cell? ⟨w.heap.size + 1 + 1, 0, none⟩ = some (.int .u64 0) := hs 0
      have s1 : wr.cell? ⟨w.heap.size + 1 + 1, 1, none⟩ = some (.int .u64 0) := hs 1
      have s2 : wr.cell? ⟨w.heap.size + 1 + 1, 2, none⟩ = some (.int .u64 0) := hs 2
      have s3 : wr.cell? ⟨w.heap.size + 1 + 1, 3, none⟩ = some (.int .u64 0) := hs 3
      have s4 : wr.cell? ⟨w.heap.size + 1 + 1, 4, none⟩ = some (.int .u64 0) := hs 4
      have s5 : wr.cell? ⟨w.heap.size + 1 + 1, 5, none⟩ = some (.int .u64 0) := hs 5
      have s6 : wr.cell? ⟨w.heap.size + 1 + 1, 6, none⟩ = some (.int .u64 0) := hs 6
      have s7 : wr.cell? ⟨w.heap.size + 1 + 1, 7, none⟩ = some (.int .u64 0) := hs 7
      have HG := Lib.hid hg
      clear hA hB hC hg hs
      go_wp2_with fail
      exact bodyPost_ret (v := .agg (vcells (jn a b))) (by simp [results, Tryz.results203, go_sem, *]) rfl ⟨rfl, by as_aux_lemma => (iterate 8 (with_reducible refine Gr.setCell ?_ hle _)); exact HG.out⟩
set_option maxRecDepth 100000 in
theorem rmeet_any (a b : Nat → Nat) (w : World) :
    Calls Tryz.prog 71 #[.agg (vcells a), .agg (vcells b)] w fun e w' => e = .returned (.agg (vcells (mt a b))) ∧ Gr w w' := by
  obtain ⟨W, hW, hg, hA, hB, hC⟩ := boxes3 a b w
  go_enter Tryz.func71, Tryz.ntmps71
  go_wp2_with fail
  rw [← hW]
  clear hW
  go_loopw [5] (fun i wr => TwoRel (mtTo a b) b w i wr) (fun i _ => 8 - (intOf i).toNat)
  case atStart => exact ⟨0, by decide, rfl, hA, hB, hC, hg⟩
  case round =>
    clear hA hB hC hg
    obtain ⟨k, hk, rfl, hA, hB, hC, hg⟩ := hrel
    by_cases hlt : k < 8
    · have hca : wr.cell? ⟨w.heap.size, k, none⟩ = some (.int .u64 (a k : Int)) := by
        rw [cell_of_block hA, vcells_at _ hlt, mtTo_at]
      have hfa : wr.frozen? ⟨w.heap.size, k, none⟩ = false := unfrozen_of_block hA k
      have hcb : wr.cell? ⟨w.heap.size + 1, k, none⟩ = some (.int .u64 (b k : Int)) := by
        rw [cell_of_block hB, vcells_at _ hlt]
      have hk0 : (0 : Int) ≤ (k : Int) := Int.natCast_nonneg _
      have hk8 : (k : Int) < 8 := by omega
      have HA := Lib.hid hA
      have HB := Lib.hid hB
      have HC := Lib.hid hC
      have HG := Lib.hid hg
      clear hA hB hC hg
      by_cases hab : b k < a k
      · have hd : decide (b k < a k) = true := decide_eq_true hab
        have hu := mtTo_succ a b k
        rw [Nat.min_eq_right (by omega)] at hu
        have HU := Lib.hid hu
        clear hu hab
        go_wp2_with fail
        go_quiet (fail)
        go_wp2_with fail
        go_roundw
        case rel => first | exact TwoRel.next' (f := mtTo a b) hlt HA.out HB.out HC.out HG.out HU.out _ (by go_num) | exact TwoRel.next (f := mtTo a b) hlt HA.out HB.out HC.out HG.out HU.out _ rfl _ (by go_num)
        case measure => simp [intOf]; omega
      · have hd : decide (b k < a k) = false := decide_eq_false hab
        have HU := Lib.hid (mtTo_stay a b k (by omega))
        clear hab
        go_wp2_with fail
        go_quiet (fail)
        go_wp2_with fail
        go_roundw
        case rel => exact TwoRel.stay (f := mtTo a b) hlt HA.out HB.out HC.out HG.out HU.out _ (by go_num)
        case measure => simp [intOf]; omega
    · obtain rfl : k = 8 := by omega
      have c0 : wr.cell? ⟨w.heap.size, 0, none⟩ = some (.int .u64 (mt a b 0 : Int)) := by rw [cell_of_block hA]; rfl
      have c1 : wr.cell? ⟨w.heap.size, 1, none⟩ = some (.int .u64 (mt a b 1 : Int)) := by rw [cell_of_block hA]; rfl
      have c2 : wr.cell? ⟨w.heap.size, 2, none⟩ = some (.int .u64 (mt a b 2 : Int)) := by rw [cell_of_block hA]; rfl
      have c3 : wr.cell? ⟨w.heap.size, 3, none⟩ = some (.int .u64 (mt a b 3 : Int)) := by rw [cell_of_block hA]; rfl
      have c4 : wr.cell? ⟨w.heap.size, 4, none⟩ = some (.int .u64 (mt a b 4 : Int)) := by rw [cell_of_block hA]; rfl
      have c5 : wr.cell? ⟨w.heap.size, 5, none⟩ = some (.int .u64 (mt a b 5 : Int)) := by rw [cell_of_block hA]; rfl
      have c6 : wr.cell? ⟨w.heap.size, 6, none⟩ = some (.int .u64 (mt a b 6 : Int)) := by rw [cell_of_block hA]; rfl
      have c7 : wr.cell? ⟨w.heap.size, 7, none⟩ = some (.int .u64 (mt a b 7 : Int)) := by rw [cell_of_block hA]; rfl
      have hle : w.heap.size ≤ w.heap.size + 1 + 1 := by omega
      have hz : w.heap.size + 1 + 1 < wr.heap.size := (Array.getElem?_eq_some_iff.1 hC).1
      have hf : ∀ i, wr.frozen? ⟨w.heap.size + 1 + 1, i, none⟩ = false := fun i => unfrozen_of_block hC i
      have hs : ∀ i : Fin 8, wr.cell? ⟨w.heap.size + 1 + 1, i.val, none⟩ = some (.int .u64 0) := fun i => by rw [cell_of_block hC, vcells_at _ i.isLt]; rfl
      have s0 : wr.cell? ⟨w.heap.size + 1 + 1, 0, none⟩ = some (.int .u64 0) := hs 0
      have s1 : wr.cell? ⟨w.heap.size + 1 + 1, 1, none⟩ = some (.int .u64 0) := hs 1
      have s2 : wr.cell? ⟨w.heap.size + 1 + 1, 2, none⟩ = some (.int .u64 0) := hs 2
      have s3 : wr.cell? ⟨w.heap.size + 1 + 1, 3, none⟩ = some (.int .u64 0) := hs 3
      have s4 : wr.cell? ⟨w.heap.size + 1 + 1, 4, none⟩ = some (.int .u64 0) := hs 4
      have s5 : wr.cell? ⟨w.heap.size + 1 + 1, 5, none⟩ = some (.int .u64 0) := hs 5
      have s6 : wr.cell? ⟨w.heap.size + 1 + 1, 6, none⟩ = some (.int .u64 0) := hs 6
      have s7 : wr.cell? ⟨w.heap.size + 1 + 1, 7, none⟩ = some (.int .u64 0) := hs 7
      have HG := Lib.hid hg
      clear hA hB hC hg hs
      go_wp2_with fail
      exact bodyPost_ret (v := .agg (vcells (mt a b))) (by simp [results, Tryz.results71, go_sem, *]) rfl ⟨rfl, by as_aux_lemma => (iterate 8 (with_reducible refine Gr.setCell ?_ hle _)); exact HG.out⟩
end Go.Proofs.YtnjmgknicffcbaaGreatDoor
