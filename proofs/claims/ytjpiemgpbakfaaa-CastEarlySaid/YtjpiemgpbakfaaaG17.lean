/- Texts CaA, joined. -/
import Derived.Test.YtjpiemgpbakfaaaG15
import Derived.Test.YtjpiemgpbakfaaaG16
/- Inboxes in memory; walks over package cast: count, ahead, sameNumber, placeOf. Written by wip/tools/gencaa.py. -/
namespace Go.Proofs.Ytjpiemgpbakfaaa
open Go.RowKit Go.Joins
set_option linter.unusedSimpArgs false
set_option linter.unusedVariables false

/-- How many transactions the first k logs have. -/
def cntTo (l : LG) : Nat → Nat
  | 0 => 0
  | k + 1 => cntTo l k + (l k).length
def cntL (l : LG) : Nat := cntTo l 8
theorem cntTo_le {l : LG} {m : Nat} (h : ∀ i, i < 8 → (l i).length ≤ m) : ∀ k, k ≤ 8 → cntTo l k ≤ k * m
  | 0, _ => Nat.zero_le _
  | k + 1, hk => by
    have h1 := cntTo_le h k (by omega)
    have h2 := h k (by omega)
    show cntTo l k + (l k).length ≤ _
    rw [Nat.succ_mul]; omega
theorem cnt_wrap {l : LG} (h : ∀ i, i < 8 → (l i).length * 112 ≤ 140737488355328) {k : Nat} (hk : k < 8) : wrap64 ((cntTo l k : Int) + ((l k).length : Int)) = ((cntTo l (k + 1) : Nat) : Int) := by
  have h1 := cntTo_le (l := l) (m := 1256584717460) (fun i hi => by have := h i hi; omega) k (by omega)
  have h2 := h k hk
  have h3 : cntTo l (k + 1) = cntTo l k + (l k).length := rfl
  have h4 : k * 1256584717460 ≤ 8 * 1256584717460 := Nat.mul_le_mul_right _ (by omega)
  rw [h3]
  unfold wrap64
  omega
theorem boxLC (u : Nat → S3) (w : World) : ∃ W, W = w.alloc (.cells (lcells u) 24) ∧ Gr w W ∧ W.heap.size = w.heap.size + 1 ∧ LBox W w.heap.size u :=
  ⟨_, rfl, (Gr.refl w).alloc _, by simp, ⟨heap_alloc _ _ _⟩⟩

set_option maxRecDepth 100000 in
set_option maxHeartbeats 2000000 in
theorem count_any (u : Nat → S3) (l : LG) (w : World) (h : LV w u l) (hlen : ∀ i, i < 8 → (l i).length * 112 ≤ 140737488355328) :
    Calls Try.prog 24 #[.agg (lcells u)] w fun e w' => e = .returned (.int .i64 (cntL l : Int)) ∧ Gr w w' := by
  obtain ⟨W, hW, hg, hsz, hL⟩ := boxLC u w
  have HG := Lib.hid hg
  have HN := Lib.hid (fun k (hk : k < 8) => h.len hk)
  have HWR := Lib.hid (fun k (hk : k < 8) => cnt_wrap hlen hk)
  obtain ⟨l0, l1, l2, l3, l4, l5, l6, l7⟩ := hL.all
  clear hL hg hsz h hlen
  go_enter Try.func24, Try.ntmps24
  go_upto_region 1 with (fail)
  rw [← hW]
  clear hW
  go_wp2_with fail
  go_loopw [3, 7] (fun n i wr => ∃ k : Nat, k ≤ 8 ∧ i = .int .i64 k ∧ n = .int .i64 (cntTo l k : Int) ∧ wr = W) (fun _ i _ => 8 - (intOf i).toNat)
  case atStart => exact ⟨0, by decide, rfl, rfl, rfl⟩
  case round =>
    clear l0 l1 l2 l3 l4 l5 l6 l7
    obtain ⟨k, hk, rfl, rfl, rfl⟩ := hrel
    by_cases hlt : k < 8
    · have hk0 : (0 : Int) ≤ (k : Int) := Int.natCast_nonneg _
      have hk8 : (k : Int) < 8 := by omega
      have hn := HN.out k hlt
      have hwr := HWR.out k hlt
      have hix := fun W => run_index_logs u hlt W
      obtain ⟨m, hm⟩ : ∃ m, m = cntTo l (k + 1) := ⟨_, rfl⟩
      rw [← hm] at hwr
      have HM := Lib.hid hm
      clear hm
      go_wp2_with fail
      go_roundw
      case measure => simp [intOf]; omega
      case rel => exact ⟨k + 1, by omega, by go_num, by rw [← HM.out]; first | rfl | simp only [hwr] | (congr 1), trivial⟩
    · obtain rfl : k = 8 := by omega
      go_wp2_with fail
      go_ret
      exact ⟨rfl, HG.out⟩

/-- Does a stand ahead of b, by Origin, then by Seq? -/
def aheadT (a b : TX) : Bool := if a.origin = b.origin then decide (a.seq < b.seq) else decide (a.origin < b.origin)
def numT (a b : TX) : Bool := (a.origin == b.origin) && (a.seq == b.seq)
set_option maxRecDepth 100000 in
set_option maxHeartbeats 2000000 in
theorem cahead_any (a b : TX) (Aa Ab : Option Addr) (na ca nb cb : Nat) (w : World) :
    Calls Try.prog 48 #[.agg (tcs a (.slice Aa na ca)), .agg (tcs b (.slice Ab nb cb))] w fun e w' => e = .returned (.bool (aheadT a b)) ∧ Gr w w' := by
  obtain ⟨W1, hW1, hg1, hx1⟩ := xbox w a (.slice Aa na ca)
  obtain ⟨W2, hW2, hg2, hx2⟩ := xbox W1 b (.slice Ab nb cb)
  have hs : W1.heap.size = w.heap.size + 1 := by rw [hW1]; simp
  rw [hs] at hx2
  obtain ⟨x0, x1, x2, -⟩ := hx1.gr hg2
  obtain ⟨y0, y1, y2, -⟩ := hx2
  have HG := Lib.hid (hg1.trans hg2)
  rw [hW1] at hW2
  clear hW1 hg1 hg2 hx1 hs
  obtain ⟨r, hr⟩ : ∃ r, r = aheadT a b := ⟨_, rfl⟩
  rw [← hr]
  have HR := Lib.hid hr
  clear hr
  by_cases h2 : a.origin = b.origin
  · rw [← h2] at y0
    have HD : Hid (r = decide (a.seq < b.seq)) := Lib.hid (by rw [HR.out]; unfold aheadT; rw [if_pos h2])
    have t1 : (a.origin != a.origin) = false := int_bne_f rfl
    clear h2
    by_cases h3 : a.seq < b.seq
    · have h3' : (a.seq : Int) < (b.seq : Int) := by omega
      have HE : Hid (r = true) := Lib.hid (by rw [HD.out]; exact decide_eq_true h3)
      go_enter Try.func48, Try.ntmps48
      go_upto_region 1 with (fail)
      rw [← hW2]
      clear hW2
      go_wp2_with fail
      go_ret
      exact ⟨by rw [HE.out]; rfl, HG.out⟩
    · have h3' : ¬ (a.seq : Int) < (b.seq : Int) := by omega
      have HE : Hid (r = false) := Lib.hid (by rw [HD.out]; exact decide_eq_false h3)
      go_enter Try.func48, Try.ntmps48
      go_upto_region 1 with (fail)
      rw [← hW2]
      clear hW2
      go_wp2_with fail
      go_ret
      exact ⟨by rw [HE.out]; rfl, HG.out⟩
  · have HD : Hid (r = decide (a.origin < b.origin)) := Lib.hid (by rw [HR.out]; unfold aheadT; rw [if_neg h2])
    have t1 := int_bne_t h2
    by_cases h3 : a.origin < b.origin
    · have HE : Hid (r = true) := Lib.hid (by rw [HD.out]; exact decide_eq_true h3)
      go_enter Try.func48, Try.ntmps48
      go_upto_region 1 with (fail)
      rw [← hW2]
      clear hW2
      go_wp2_with fail
      go_ret
      exact ⟨by rw [HE.out]; rfl, HG.out⟩
    · have HE : Hid (r = false) := Lib.hid (by rw [HD.out]; exact decide_eq_false h3)
      go_enter Try.func48, Try.ntmps48
      go_upto_region 1 with (fail)
      rw [← hW2]
      clear hW2
      go_wp2_with fail
      go_ret
      exact ⟨by rw [HE.out]; rfl, HG.out⟩
set_option maxRecDepth 100000 in
set_option maxHeartbeats 2000000 in
theorem number_any (a b : TX) (Aa Ab : Option Addr) (na ca nb cb : Nat) (w : World) :
    Calls Try.prog 35 #[.agg (tcs a (.slice Aa na ca)), .agg (tcs b (.slice Ab nb cb))] w fun e w' => e = .returned (.bool (numT a b)) ∧ Gr w w' := by
  obtain ⟨W1, hW1, hg1, hx1⟩ := xbox w a (.slice Aa na ca)
  obtain ⟨W2, hW2, hg2, hx2⟩ := xbox W1 b (.slice Ab nb cb)
  have hs : W1.heap.size = w.heap.size + 1 := by rw [hW1]; simp
  rw [hs] at hx2
  obtain ⟨x0, x1, x2, -⟩ := hx1.gr hg2
  obtain ⟨y0, y1, y2, -⟩ := hx2
  have HG := Lib.hid (hg1.trans hg2)
  rw [hW1] at hW2
  clear hW1 hg1 hg2 hx1 hs
  obtain ⟨r, hr⟩ : ∃ r, r = numT a b := ⟨_, rfl⟩
  rw [← hr]
  have HR := Lib.hid hr
  clear hr
  by_cases h2 : a.origin = b.origin
  · have t1 := int_beq_t h2
    by_cases h3 : a.seq = b.seq
    · have t2 := nat_beq_t h3
      have HE : Hid (r = true) := Lib.hid (by rw [HR.out]; unfold numT; rw [h2, h3]; simp)
      clear h2 h3
      go_enter Try.func35, Try.ntmps35
      go_upto_region 1 with (fail)
      rw [← hW2]
      clear hW2
      go_wp2_with fail
      go_ret
      exact ⟨by rw [HE.out]; rfl, HG.out⟩
    · have t2 := nat_beq_f h3
      have HE : Hid (r = false) := Lib.hid (by rw [HR.out]; unfold numT; rw [h2]; simp [h3])
      clear h2 h3
      go_enter Try.func35, Try.ntmps35
      go_upto_region 1 with (fail)
      rw [← hW2]
      clear hW2
      go_wp2_with fail
      go_ret
      exact ⟨by rw [HE.out]; rfl, HG.out⟩
  · have t1 := int_beq_f h2
    have HE : Hid (r = false) := Lib.hid (by rw [HR.out]; unfold numT; simp [h2])
    clear h2
    go_enter Try.func35, Try.ntmps35
    go_upto_region 1 with (fail)
    rw [← hW2]
    clear hW2
    go_wp2_with fail
    go_ret
    exact ⟨by rw [HE.out]; rfl, HG.out⟩
/-- The place of t among those that wait. -/
def plcT (t : TX) : List TX → Nat
  | [] => 0
  | x :: r => if aheadT x t = true then plcT t r + 1 else 0
theorem plcT_le (t : TX) : ∀ L, plcT t L ≤ L.length
  | [] => Nat.le_refl _
  | x :: r => by
    have := plcT_le t r
    unfold plcT
    rw [List.length_cons]
    split <;> omega
theorem plcT_ahead {t : TX} : ∀ {L : List TX} {k : Nat} {x : TX}, k < plcT t L → L[k]? = some x → aheadT x t = true
  | [], _, _, h, _ => absurd h (Nat.not_lt_zero _)
  | y :: r, k, x, h, e => by
    unfold plcT at h
    by_cases hy : aheadT y t = true
    · rw [if_pos hy] at h
      cases k with
      | zero => injection e with e; rw [← e]; exact hy
      | succ k => exact plcT_ahead (L := r) (by omega) e
    · rw [if_neg hy] at h; omega
theorem plcT_at {t : TX} : ∀ {L : List TX} {x : TX}, L[plcT t L]? = some x → aheadT x t = false
  | [], _, e => by cases e
  | y :: r, x, e => by
    unfold plcT at e
    by_cases hy : aheadT y t = true
    · rw [if_pos hy] at e
      exact plcT_at (L := r) e
    · rw [if_neg hy] at e
      injection e with e
      rw [← e]; simpa using hy
theorem plcT_of {t : TX} : ∀ {L : List TX} {k : Nat}, (∀ j x, j < k → L[j]? = some x → aheadT x t = true) → k ≤ L.length → (∀ x, L[k]? = some x → aheadT x t = false) → plcT t L = k
  | [], k, _, hk, _ => by simp at hk; rw [hk]; rfl
  | y :: r, 0, _, _, hn => by
    unfold plcT
    rw [if_neg (by rw [hn y rfl]; simp)]
  | y :: r, k + 1, ha, hk, hn => by
    unfold plcT
    rw [if_pos (ha 0 y (by omega) rfl), plcT_of (L := r) (k := k) (fun j x hj e => ha (j + 1) x (by omega) e) (by simpa using hk) hn]
theorem boxT (t : TX) (v : Value) (w : World) : ∃ W, W = w.alloc (.cells (tcs t v) 38) ∧ Gr w W ∧ XFix W w.heap.size 0 t v := xbox w t v

set_option maxRecDepth 100000 in
set_option maxHeartbeats 4000000 in
theorem place_any (v : Value) (L : List TX) (t : TX) (At : Option Addr) (nt ct : Nat) (w : World) (h : XV w v L) (hlen : L.length ≤ 1024) :
    Calls Try.prog 34 #[v, .agg (tcs t (.slice At nt ct))] w fun e w' => e = .returned (.int .i64 (plcT t L : Int)) ∧ Gr w w' := by
  obtain ⟨W, hW, hg, hx⟩ := boxT t (.slice At nt ct) w
  have HV := Lib.hid (h.gr hg)
  obtain ⟨A, c, rfl⟩ := xv_form h
  have HG := Lib.hid hg
  have HX := Lib.hid hx
  obtain ⟨n, hn⟩ : ∃ n, n = L.length := ⟨_, rfl⟩
  rw [← hn] at hlen HV ⊢
  have HN := Lib.hid hn
  clear h hg hx hn
  go_enter Try.func34, Try.ntmps34
  go_upto_region 1 with (fail)
  rw [← hW]
  clear hW
  go_wp2_with fail
  go_loopw [5] (fun i wr => ∃ k : Nat, k ≤ n ∧ i = .int .i64 k ∧ Hid (Gr W wr ∧ ∀ j x, j < k → L[j]? = some x → aheadT x t = true)) (fun i _ => n - (intOf i).toNat)
  case atStart => exact ⟨0, Nat.zero_le _, rfl, Lib.hid ⟨Gr.refl _, fun _ _ hj => absurd hj (Nat.not_lt_zero _)⟩⟩
  case round =>
    obtain ⟨k, hk, rfl, hst⟩ := hrel
    rename World => wr
    have hk0 : (0 : Int) ≤ (k : Int) := Int.natCast_nonneg _
    by_cases hlt : k < n
    · have hkn : (k : Int) < (n : Int) := by omega
      have hdk : decide ((k : Int) < (n : Int)) = true := decide_eq_true hkn
      have hkl : k < L.length := by rw [← HN.out]; exact hlt
      obtain ⟨A', c', hv, h1, h2, h3⟩ := HV.out
      injection hv with e1 e2 e3
      obtain ⟨b, off, ha, xv, hx0, hx⟩ := h3 k hkl
      rw [← e1] at ha
      subst ha
      obtain ⟨x, hxe⟩ : ∃ x, x = L[k] := ⟨_, rfl⟩
      rw [← hxe] at hx0 hx
      obtain ⟨Ax, cx, rfl⟩ := tov_form hx0
      obtain ⟨nx, hnx⟩ : ∃ n, n = x.ops.length := ⟨_, rfl⟩
      rw [← hnx] at hx
      have HXX := Lib.hid hx
      have HAT : Hid (L[k]? = some x) := Lib.hid (by rw [hxe]; exact List.getElem?_eq_getElem hkl)
      obtain ⟨r, hr⟩ : ∃ r, r = aheadT x t := ⟨_, rfl⟩
      have HA := Lib.hid (fun w1 => cahead_any x t Ax At nx cx nt ct w1)
      rw [← hr] at HA
      have HR := Lib.hid hr
      clear hx0 hx hxe hnx hr h1 h2 h3 e1 e2 e3 hkl
      go_upto_region 2 with (fail)
      refine qRegion (fun w' => XFix w' b (off + k * 12) x (.slice Ax nx cx) ∧ XFix w' w.heap.size 0 t (.slice At nt ct) ∧ Gr W w') (by kernel_rfl) (by kernel_rfl) ⟨(HXX.out.gr hst.out.1).gr (Gr.refl _).drew, (HX.out.gr hst.out.1).gr (Gr.refl _).drew, hst.out.1.drew⟩ ?_
      iterate 10
        refine qTake (by kernel_rfl) ?_
        apply Exists.intro
        refine ⟨fun wq hq => ?_, ?_⟩
        · go_light
          obtain ⟨⟨q0, q1, q2, q3, q4, q5, q6, q7, q8, q9, q10, q11⟩, ⟨p0, p1, p2, p3, p4, p5, p6, p7, p8, p9, p10, p11⟩, hg⟩ := hq
          go_simp
          try with_reducible rfl
          done
        try simp only [Act.put, List.setIfInBounds_toArray, List.set_cons_zero, List.set_cons_succ]
      refine qCall (by kernel_rfl) ?_
      apply Exists.intro
      refine ⟨?_, ?_⟩
      · apply Exists.intro
        apply Exists.intro
        refine ⟨fun wq => ?_, fun wq hq => ?_⟩
        · go_light
          go_simp
          exact ⟨rfl, rfl⟩
        · exact (HA.out wq).mono fun e w'' ⟨he, hg⟩ => ⟨he, hq.1.gr hg, hq.2.1.gr hg, hq.2.2.trans hg⟩
      try simp only [Act.put, List.setIfInBounds_toArray, List.set_cons_zero, List.set_cons_succ]
      iterate 1
        refine qTake (by kernel_rfl) ?_
        apply Exists.intro
        refine ⟨fun wq hq => ?_, ?_⟩
        · go_light
          obtain ⟨⟨q0, q1, q2, q3, q4, q5, q6, q7, q8, q9, q10, q11⟩, ⟨p0, p1, p2, p3, p4, p5, p6, p7, p8, p9, p10, p11⟩, hg⟩ := hq
          go_simp
          try with_reducible rfl
          done
        try simp only [Act.put, List.setIfInBounds_toArray, List.set_cons_zero, List.set_cons_succ]
      refine qNil ?_
      rintro w3 ⟨-, -, hg3⟩
      have HG3 := Lib.hid hg3
      clear hg3 hdk
      rcases r with _ | _
      · have HP : Hid (plcT t L = k) := Lib.hid (plcT_of hst.out.2 (by rw [← HN.out]; omega) fun y hy => by rw [HAT.out] at hy; injection hy with hy; rw [← hy]; exact HR.out.symm)
        go_wp2_with fail
        go_ret
        exact ⟨by rw [HP.out]; rfl, HG.out.trans HG3.out⟩
      · have hw1 : wrap64 ((k : Int) + 1) = ((k + 1 : Nat) : Int) := by unfold wrap64; omega
        obtain ⟨k1, hk1⟩ : ∃ k1, k1 = k + 1 := ⟨_, rfl⟩
        rw [← hk1] at hw1
        have HK1 := Lib.hid hk1
        have HST : Hid (Gr W w3 ∧ ∀ j x, j < k1 → L[j]? = some x → aheadT x t = true) := Lib.hid ⟨HG3.out, fun j y hj hy => by
          rcases Nat.lt_or_ge j k with h | h
          · exact hst.out.2 j y h hy
          · obtain rfl : j = k := by omega
            rw [HAT.out] at hy; injection hy with hy; rw [← hy]; exact HR.out.symm⟩
        clear hst hk1
        go_wp2_with fail
        go_roundw
        case measure => have := HK1.out; simp [intOf]; omega
        case rel => exact ⟨k1, by have := HK1.out; omega, by have := HK1.out; go_num, HST⟩
    · obtain rfl : k = n := by omega
      have hdk : decide ((k : Int) < (k : Int)) = false := decide_eq_false (by omega)
      have HP : Hid (plcT t L = k) := Lib.hid (plcT_of hst.out.2 (by rw [← HN.out]; omega) fun y hy => by rw [HN.out, List.getElem?_eq_none (Nat.le_refl _)] at hy; cases hy)
      go_upto_region 2 with (fail)
      refine qRegion (fun w' => Gr W w') (by kernel_rfl) (by kernel_rfl) hst.out.1.drew ?_
      iterate 5
        refine qTake (by kernel_rfl) ?_
        apply Exists.intro
        refine ⟨fun wq hq => ?_, ?_⟩
        · go_light
          obtain hg := hq
          go_simp
          try with_reducible rfl
          done
        try simp only [Act.put, List.setIfInBounds_toArray, List.set_cons_zero, List.set_cons_succ]
      iterate 6
        refine qSkip (by kernel_rfl) ?_
        try simp only [Act.put, List.setIfInBounds_toArray, List.set_cons_zero, List.set_cons_succ]
      iterate 1
        refine qTake (by kernel_rfl) ?_
        apply Exists.intro
        refine ⟨fun wq hq => ?_, ?_⟩
        · go_light
          obtain hg := hq
          go_simp
          try with_reducible rfl
          done
        try simp only [Act.put, List.setIfInBounds_toArray, List.set_cons_zero, List.set_cons_succ]
      refine qNil ?_
      rintro w3 hg3
      have HG3 := Lib.hid hg3
      clear hg3 hdk
      go_wp2_with fail
      go_ret
      exact ⟨by rw [HP.out]; rfl, HG.out.trans HG3.out⟩
end Go.Proofs.Ytjpiemgpbakfaaa
