/- Walks: the program's Closed. Walks: the document's Copy of a transaction; a transaction's box filled. -/
import Derived.Test.YtnjmgknicffcbaaGreatDoorZr08
import Derived.Test.YtnjmgknicffcbaaGreatDoorZr07
import Derived.Test.YtnjmgknicffcbaaGreatDoorZr02
import Derived.Test.YtnjmgknicffcbaaGreatDoorZr05
import Derived.Lib.SmallJoins
namespace Go.Proofs.YtnjmgknicffcbaaGreatDoor
open Go.RowKit Go.Joins

/-- The transactions of the first k logs, as far as the cut goes, depend on nothing beyond it. -/
def closedTo (l : LG) (v : Nat → Nat) (k : Nat) : Prop := ∀ i d t, i < k → d < v i → (l i)[d]? = some t → leqB t.deps v = true
def closedIn (l : LG) (v : Nat → Nat) (i k : Nat) : Prop := ∀ d t, d < k → (l i)[d]? = some t → leqB t.deps v = true
theorem closedTo_next {l : LG} {v : Nat → Nat} {k : Nat} (h : closedTo l v k) (h2 : closedIn l v k (v k)) : closedTo l v (k + 1) := fun i d t hi hd ht => by
  by_cases e : i = k
  · subst e; exact h2 d t hd ht
  · exact h i d t (by omega) hd ht
theorem closedIn_next {l : LG} {v : Nat → Nat} {i d : Nat} {t : TX} (h : closedIn l v i d) (ht : (l i)[d]? = some t) (h2 : leqB t.deps v = true) : closedIn l v i (d + 1) := fun e u he hu => by
  by_cases q : e = d
  · subst q
    rw [ht] at hu
    injection hu with hu
    rw [← hu]; exact h2
  · exact h e u (by omega) hu
theorem closedB_no {l : LG} {v : Nat → Nat} (h : ¬ closedP l v) : closedB l v = false := by
  rw [Bool.eq_false_iff]
  exact fun e => h (closedB_iff.1 e)
theorem closedB_yes {l : LG} {v : Nat → Nat} (h : closedP l v) : closedB l v = true := closedB_iff.2 h
set_option maxRecDepth 100000 in
theorem slice_txs (A : Option Addr) {n c k : Nat} (hk : k ≤ c) (W : World) : (Instr.slice 23 (.slice A n c) none (some (.int .u64 (k : Int))) none).run Tryz.prog W = .ok (.slice A k c) W := by
  have hz : ∀ W : World, (sizeOf (Tryz.prog.elem 23)).run Tryz.prog W = .ok 12 W := fun W => by show _ = _; kernel_rfl
  rw [run_slice_h W _ A n c Tryz.underlying23 .u64 (k : Int) (by omega) (by omega), hz]
  show Result.ok (sliced A 0 (k : Int).toNat c 12) W = _
  unfold sliced
  rw [Int.toNat_natCast]
  cases A with
  | none => simp
  | some a => simp [Addr.add]
theorem LV.cap {w : World} {u : Nat → S3} {l : LG} (h : LV w u l) {i : Nat} (hi : i < 8) : (l i).length ≤ (u i).c ∧ (u i).c ≤ maxLen := by
  obtain ⟨A, c, hv, h1, ⟨h2, _⟩, _⟩ := h i hi
  injection hv with e1 e2 e3
  rw [e3]
  exact ⟨h1, h2⟩

set_option maxRecDepth 100000 in
set_option maxHeartbeats 2000000 in
theorem closed_any (u : Nat → S3) (l : LG) (v : Nat → Nat) (w : World) (h : LV w u l) :
    Calls Tryz.prog 50 #[.agg (lcells u), .agg (vcells v)] w fun e w' => e = .returned (.bool (closedB l v)) ∧ Gr w w' := by
  obtain ⟨W, hW, hg, hsz, hL, hV⟩ := boxesLV u v w
  have HL := Lib.hid hL
  have HV := Lib.hid hV
  have HG := Lib.hid hg
  have HX := Lib.hid (h.gr hg)
  have HSZ := Lib.hid (fun w1 (g : Gr W w1) => size_any u l w1 ((h.gr hg).gr g))
  have HLQ := Lib.hid (fun w1 => leq_any v (sizeV l) w1)
  obtain ⟨r, hr⟩ : ∃ r, r = leqB v (sizeV l) := ⟨_, rfl⟩
  rw [← hr] at HLQ
  have HR0 := Lib.hid hr
  clear hL hV hg hsz h hr
  go_enter Tryz.func50, Tryz.ntmps50
  go_upto_region 1 with (fail)
  rw [← hW]
  clear hW
  refine qRegion (fun w' => LC w' w.heap.size u ∧ VC w' (w.heap.size + 1) v ∧ Gr W w') (by kernel_rfl) (by kernel_rfl) ⟨HL.out.lc.gr (Gr.refl _).drew, HV.out.vc.gr (Gr.refl _).drew, (Gr.refl _).drew⟩ ?_
  iterate 2
    refine qTake (by kernel_rfl) ?_
    apply Exists.intro
    refine ⟨fun wq hq => ?_, ?_⟩
    · go_light
      obtain ⟨⟨l0, l1, l2, l3, l4, l5, l6, l7⟩, ⟨h0, h1, h2, h3, h4, h5, h6, h7⟩, hg⟩ := hq
      go_simp
      try with_reducible rfl
      done
    try simp only [Act.put, List.setIfInBounds_toArray, List.set_cons_zero, List.set_cons_succ]
  refine qCall (by kernel_rfl) ?_
  apply Exists.intro
  refine ⟨?_, ?_⟩
  · apply Exists.intro
    apply Exists.intro
    refine ⟨fun wq => ?_, fun wq hq => ?_⟩
    · go_light
      go_simp
      exact ⟨rfl, rfl⟩
    · exact (HSZ.out wq hq.2.2).mono fun e w'' ⟨he, hg⟩ => ⟨he, hq.1.gr hg, hq.2.1.gr hg, hq.2.2.trans hg⟩
  try simp only [Act.put, List.setIfInBounds_toArray, List.set_cons_zero, List.set_cons_succ]
  refine qCall (by kernel_rfl) ?_
  apply Exists.intro
  refine ⟨?_, ?_⟩
  · apply Exists.intro
    apply Exists.intro
    refine ⟨fun wq => ?_, fun wq hq => ?_⟩
    · go_light
      go_simp
      exact ⟨rfl, rfl⟩
    · exact (HLQ.out wq).mono fun e w'' ⟨he, hg⟩ => ⟨he, hq.1.gr hg, hq.2.1.gr hg, hq.2.2.trans hg⟩
  try simp only [Act.put, List.setIfInBounds_toArray, List.set_cons_zero, List.set_cons_succ]
  iterate 1
    refine qTake (by kernel_rfl) ?_
    apply Exists.intro
    refine ⟨fun wq hq => ?_, ?_⟩
    · go_light
      obtain ⟨⟨l0, l1, l2, l3, l4, l5, l6, l7⟩, ⟨h0, h1, h2, h3, h4, h5, h6, h7⟩, hg⟩ := hq
      go_simp
      try with_reducible rfl
      done
    try simp only [Act.put, List.setIfInBounds_toArray, List.set_cons_zero, List.set_cons_succ]
  refine qNil ?_
  rintro w3 ⟨hl3, hx3, hg3⟩
  have HG3 := Lib.hid hg3
  clear hx3 hg3
  rcases r with _ | _
  · have HF := Lib.hid (closedB_no (l := l) (v := v) fun hc => by have := hc.1; rw [← HR0.out] at this; cases this)
    clear hl3
    go_wp2_with fail
    go_ret
    exact ⟨by rw [HF.out]; rfl, HG.out.trans HG3.out⟩
  · have HR := Lib.hid HR0.out.symm
    simp only [Bool.not_true]
    obtain ⟨l0, l1, l2, l3, l4, l5, l6, l7⟩ := hl3
    go_wp2_with fail
    clear l0 l1 l2 l3 l4 l5 l6 l7
    go_loopw [15] (fun i wr => ∃ k : Nat, k ≤ 8 ∧ i = .int .i64 k ∧ Hid (closedTo l v k) ∧ Gr W wr) (fun i _ => 8 - (intOf i).toNat)
    case atStart => exact ⟨0, by decide, rfl, Lib.hid (fun i d t hi => absurd hi (Nat.not_lt_zero _)), HG3.out⟩
    case round =>
      obtain ⟨k, hk, rfl, hct, hgr⟩ := hrel
      rename World => wo
      by_cases hlt : k < 8
      · have hk0 : (0 : Int) ≤ (k : Int) := Int.natCast_nonneg _
        have hk8 : (k : Int) < 8 := by omega
        have hc := (HV.out.gr hgr).at hlt
        have hn := HX.out.len hlt
        have hvl : v k ≤ (l k).length := lq HR.out hlt
        obtain ⟨hcap, hcm⟩ := HX.out.cap hlt
        have hle := HX.out.le hlt
        have hix := fun W => run_index_logs u hlt W
        obtain ⟨A, hA⟩ : ∃ A, A = (u k).a := ⟨_, rfl⟩
        rw [← hA] at hix
        have HA := Lib.hid hA
        have hsl := fun W => slice_txs A (n := (u k).n) (k := v k) (c := (u k).c) (by omega) W
        clear hA
        have HGR := Lib.hid hgr
        clear hgr
        go_wp2_with fail
        go_loopw [25] (fun i wx => ∃ d : Nat, d ≤ v k ∧ i = .int .i64 d ∧ Hid (closedIn l v k d) ∧ Gr wo wx) (fun i _ => v k - (intOf i).toNat)
        case atStart => exact ⟨0, Nat.zero_le _, rfl, Lib.hid (fun d t hd => absurd hd (Nat.not_lt_zero _)), Gr.refl _⟩
        case round =>
          obtain ⟨d, hd, rfl, hci, hgx⟩ := hrel
          rename World => wx
          by_cases hdv : d < v k
          · have hdl : d < (l k).length := by omega
            obtain ⟨b, off, ha, xv, hx0, hx⟩ := (HX.out.gr (HGR.out.trans hgx)).cell hlt hdl
            rw [← HA.out] at ha
            subst ha
            obtain ⟨t, ht⟩ : ∃ t, t = (l k)[d] := ⟨_, rfl⟩
            rw [← ht] at hx0 hx
            obtain ⟨Ax, cx, rfl⟩ := tov_form hx0
            obtain ⟨nx, hnx⟩ : ∃ n, n = t.ops.length := ⟨_, rfl⟩
            rw [← hnx] at hx
            obtain ⟨x0, x1, x2, x3, x4, x5, x6, x7, x8, x9, x10, x11⟩ := hx
            obtain ⟨W5, hW5, hg5, hx5⟩ := xbox wx t (.slice Ax nx cx)
            have HV5 := Lib.hid ((HV.out.gr (HGR.out.trans (hgx.trans hg5))).vc)
            have HG5 := Lib.hid (hgx.trans hg5)
            have HT := Lib.hid (show (l k)[d]? = some t by rw [ht]; exact List.getElem?_eq_getElem hdl)
            have HLT := Lib.hid (fun w1 => leq_any t.deps v w1)
            obtain ⟨r, hr⟩ : ∃ r, r = leqB t.deps v := ⟨_, rfl⟩
            rw [← hr] at HLT
            have HRT := Lib.hid hr
            have hd0 : (0 : Int) ≤ (d : Int) := by omega
            have hd1 : (d : Int) < (v k : Int) := by omega
            clear hx0 ht hnx hgx hg5 hr hc hix hsl
            go_upto_region 9 with (fail)
            rw [← hW5]
            clear hW5 x0 x1 x2 x3 x4 x5 x6 x7 x8 x9 x10 x11
            obtain ⟨y0, y1, y2, y3, y4, y5, y6, y7⟩ := HV5.out
            obtain ⟨p0, p1, p2, p3, p4, p5, p6, p7, p8, p9, p10, p11⟩ := hx5
            go_wp2_with fail
            refine (HLT.out _).mono ?_
            rintro e w6 ⟨rfl, g6⟩
            have HG6 := Lib.hid (HG5.out.trans g6)
            clear g6 y0 y1 y2 y3 y4 y5 y6 y7 p0 p1 p2 p3 p4 p5 p6 p7 p8 p9 p10 p11
            rcases r with _ | _
            · have HF := Lib.hid (closedB_no (l := l) (v := v) fun hc => by have := hc.2 k d t hlt hdv HT.out; rw [← HRT.out] at this; cases this)
              go_wp2_with fail
              go_ret
              exact ⟨by rw [HF.out]; rfl, HG.out.trans (HGR.out.trans HG6.out)⟩
            · have HC2 := Lib.hid (closedIn_next hci.out HT.out HRT.out.symm)
              go_wp2_with fail
              go_roundw
              case measure => simp [intOf]; omega
              case rel => exact ⟨d + 1, by omega, by go_num, HC2, HG6.out⟩
          · obtain rfl : d = v k := by omega
            have HC2 := Lib.hid (closedTo_next hct.out hci.out)
            have HG6 := Lib.hid (HGR.out.trans hgx)
            clear hgx
            go_wp2_with fail
            go_roundw
            case measure => simp [intOf]; omega
            case rel => exact ⟨k + 1, by omega, by go_num, HC2, HG6.out⟩
      · obtain rfl : k = 8 := by omega
        have HF := Lib.hid (closedB_yes (l := l) (v := v) ⟨HR.out, hct.out⟩)
        have HGR := Lib.hid hgr
        clear hgr
        go_wp2_with fail
        go_ret
        exact ⟨by rw [HF.out]; rfl, HG.out.trans HGR.out⟩
end Go.Proofs.YtnjmgknicffcbaaGreatDoor
namespace Go.Proofs.YtnjmgknicffcbaaGreatDoor
open Go.RowKit Go.Joins

abbrev zeroX : Array Value := #[.int .i64 0, .int .u64 0, .int .u64 0, .int .u64 0, .int .u64 0, .int .u64 0, .int .u64 0, .int .u64 0, .int .u64 0, .int .u64 0, .int .u64 0, .slice none 0 0]
/-- The world behind the stores of a transaction into a box. -/
def stored12 (W : World) (b : Nat) (v0 v1 v2 v3 v4 v5 v6 v7 v8 v9 v10 v11 : Value) : World := ((((((((((((W.setCell ⟨b, 0, none⟩ v0).setCell ⟨b, 1, none⟩ v1).setCell ⟨b, 2, none⟩ v2).setCell ⟨b, 3, none⟩ v3).setCell ⟨b, 4, none⟩ v4).setCell ⟨b, 5, none⟩ v5).setCell ⟨b, 6, none⟩ v6).setCell ⟨b, 7, none⟩ v7).setCell ⟨b, 8, none⟩ v8).setCell ⟨b, 9, none⟩ v9).setCell ⟨b, 10, none⟩ v10).setCell ⟨b, 11, none⟩ v11)
set_option maxHeartbeats 1000000 in
theorem stored12_facts {W : World} {b : Nat} (v0 v1 v2 v3 v4 v5 v6 v7 v8 v9 v10 v11 : Value) (h2 : W.heap[b]? = some (.cells zeroX 47 (0, 0))) :
    (stored12 W b v0 v1 v2 v3 v4 v5 v6 v7 v8 v9 v10 v11).heap[b]? = some (.cells #[v0, v1, v2, v3, v4, v5, v6, v7, v8, v9, v10, v11] 47 (0, 0)) ∧
      (∀ {B : Nat} {ty : TypeId} {size n : Nat} {v : Value} {xs : List Value}, W.ownsRow B ty size v n xs → ty ≠ 47 → (stored12 W b v0 v1 v2 v3 v4 v5 v6 v7 v8 v9 v10 v11).ownsRow B ty size v n xs) ∧
      (∀ {w : World}, Gr w W → w.heap.size ≤ b → Gr w (stored12 W b v0 v1 v2 v3 v4 v5 v6 v7 v8 v9 v10 v11)) := by
  unfold stored12
  have a0 : (W.setCell ⟨b, 0, none⟩ v0).heap[b]? = some (.cells #[v0, .int .u64 0, .int .u64 0, .int .u64 0, .int .u64 0, .int .u64 0, .int .u64 0, .int .u64 0, .int .u64 0, .int .u64 0, .int .u64 0, .slice none 0 0] 47 (0, 0)) := set_obj h2 v0
  have a1 : ((W.setCell ⟨b, 0, none⟩ v0).setCell ⟨b, 1, none⟩ v1).heap[b]? = some (.cells #[v0, v1, .int .u64 0, .int .u64 0, .int .u64 0, .int .u64 0, .int .u64 0, .int .u64 0, .int .u64 0, .int .u64 0, .int .u64 0, .slice none 0 0] 47 (0, 0)) := set_obj a0 v1
  have a2 : (((W.setCell ⟨b, 0, none⟩ v0).setCell ⟨b, 1, none⟩ v1).setCell ⟨b, 2, none⟩ v2).heap[b]? = some (.cells #[v0, v1, v2, .int .u64 0, .int .u64 0, .int .u64 0, .int .u64 0, .int .u64 0, .int .u64 0, .int .u64 0, .int .u64 0, .slice none 0 0] 47 (0, 0)) := set_obj a1 v2
  have a3 : ((((W.setCell ⟨b, 0, none⟩ v0).setCell ⟨b, 1, none⟩ v1).setCell ⟨b, 2, none⟩ v2).setCell ⟨b, 3, none⟩ v3).heap[b]? = some (.cells #[v0, v1, v2, v3, .int .u64 0, .int .u64 0, .int .u64 0, .int .u64 0, .int .u64 0, .int .u64 0, .int .u64 0, .slice none 0 0] 47 (0, 0)) := set_obj a2 v3
  have a4 : (((((W.setCell ⟨b, 0, none⟩ v0).setCell ⟨b, 1, none⟩ v1).setCell ⟨b, 2, none⟩ v2).setCell ⟨b, 3, none⟩ v3).setCell ⟨b, 4, none⟩ v4).heap[b]? = some (.cells #[v0, v1, v2, v3, v4, .int .u64 0, .int .u64 0, .int .u64 0, .int .u64 0, .int .u64 0, .int .u64 0, .slice none 0 0] 47 (0, 0)) := set_obj a3 v4
  have a5 : ((((((W.setCell ⟨b, 0, none⟩ v0).setCell ⟨b, 1, none⟩ v1).setCell ⟨b, 2, none⟩ v2).setCell ⟨b, 3, none⟩ v3).setCell ⟨b, 4, none⟩ v4).setCell ⟨b, 5, none⟩ v5).heap[b]? = some (.cells #[v0, v1, v2, v3, v4, v5, .int .u64 0, .int .u64 0, .int .u64 0, .int .u64 0, .int .u64 0, .slice none 0 0] 47 (0, 0)) := set_obj a4 v5
  have a6 : (((((((W.setCell ⟨b, 0, none⟩ v0).setCell ⟨b, 1, none⟩ v1).setCell ⟨b, 2, none⟩ v2).setCell ⟨b, 3, none⟩ v3).setCell ⟨b, 4, none⟩ v4).setCell ⟨b, 5, none⟩ v5).setCell ⟨b, 6, none⟩ v6).heap[b]? = some (.cells #[v0, v1, v2, v3, v4, v5, v6, .int .u64 0, .int .u64 0, .int .u64 0, .int .u64 0, .slice none 0 0] 47 (0, 0)) := set_obj a5 v6
  have a7 : ((((((((W.setCell ⟨b, 0, none⟩ v0).setCell ⟨b, 1, none⟩ v1).setCell ⟨b, 2, none⟩ v2).setCell ⟨b, 3, none⟩ v3).setCell ⟨b, 4, none⟩ v4).setCell ⟨b, 5, none⟩ v5).setCell ⟨b, 6, none⟩ v6).setCell ⟨b, 7, none⟩ v7).heap[b]? = some (.cells #[v0, v1, v2, v3, v4, v5, v6, v7, .int .u64 0, .int .u64 0, .int .u64 0, .slice none 0 0] 47 (0, 0)) := set_obj a6 v7
  have a8 : (((((((((W.setCell ⟨b, 0, none⟩ v0).setCell ⟨b, 1, none⟩ v1).setCell ⟨b, 2, none⟩ v2).setCell ⟨b, 3, none⟩ v3).setCell ⟨b, 4, none⟩ v4).setCell ⟨b, 5, none⟩ v5).setCell ⟨b, 6, none⟩ v6).setCell ⟨b, 7, none⟩ v7).setCell ⟨b, 8, none⟩ v8).heap[b]? = some (.cells #[v0, v1, v2, v3, v4, v5, v6, v7, v8, .int .u64 0, .int .u64 0, .slice none 0 0] 47 (0, 0)) := set_obj a7 v8
  have a9 : ((((((((((W.setCell ⟨b, 0, none⟩ v0).setCell ⟨b, 1, none⟩ v1).setCell ⟨b, 2, none⟩ v2).setCell ⟨b, 3, none⟩ v3).setCell ⟨b, 4, none⟩ v4).setCell ⟨b, 5, none⟩ v5).setCell ⟨b, 6, none⟩ v6).setCell ⟨b, 7, none⟩ v7).setCell ⟨b, 8, none⟩ v8).setCell ⟨b, 9, none⟩ v9).heap[b]? = some (.cells #[v0, v1, v2, v3, v4, v5, v6, v7, v8, v9, .int .u64 0, .slice none 0 0] 47 (0, 0)) := set_obj a8 v9
  have a10 : (((((((((((W.setCell ⟨b, 0, none⟩ v0).setCell ⟨b, 1, none⟩ v1).setCell ⟨b, 2, none⟩ v2).setCell ⟨b, 3, none⟩ v3).setCell ⟨b, 4, none⟩ v4).setCell ⟨b, 5, none⟩ v5).setCell ⟨b, 6, none⟩ v6).setCell ⟨b, 7, none⟩ v7).setCell ⟨b, 8, none⟩ v8).setCell ⟨b, 9, none⟩ v9).setCell ⟨b, 10, none⟩ v10).heap[b]? = some (.cells #[v0, v1, v2, v3, v4, v5, v6, v7, v8, v9, v10, .slice none 0 0] 47 (0, 0)) := set_obj a9 v10
  have a11 : ((((((((((((W.setCell ⟨b, 0, none⟩ v0).setCell ⟨b, 1, none⟩ v1).setCell ⟨b, 2, none⟩ v2).setCell ⟨b, 3, none⟩ v3).setCell ⟨b, 4, none⟩ v4).setCell ⟨b, 5, none⟩ v5).setCell ⟨b, 6, none⟩ v6).setCell ⟨b, 7, none⟩ v7).setCell ⟨b, 8, none⟩ v8).setCell ⟨b, 9, none⟩ v9).setCell ⟨b, 10, none⟩ v10).setCell ⟨b, 11, none⟩ v11).heap[b]? = some (.cells #[v0, v1, v2, v3, v4, v5, v6, v7, v8, v9, v10, v11] 47 (0, 0)) := set_obj a10 v11
  refine ⟨a11, fun h ht => ?_, fun h q2 => (Gr.setCell (Gr.setCell (Gr.setCell (Gr.setCell (Gr.setCell (Gr.setCell (Gr.setCell (Gr.setCell (Gr.setCell (Gr.setCell (Gr.setCell (Gr.setCell h q2 _) q2 _) q2 _) q2 _) q2 _) q2 _) q2 _) q2 _) q2 _) q2 _) q2 _) q2 _)⟩
  have r0 := own_set_obj h h2 ht (i := 0) v0
  have r1 := own_set_obj r0 a0 ht (i := 1) v1
  have r2 := own_set_obj r1 a1 ht (i := 2) v2
  have r3 := own_set_obj r2 a2 ht (i := 3) v3
  have r4 := own_set_obj r3 a3 ht (i := 4) v4
  have r5 := own_set_obj r4 a4 ht (i := 5) v5
  have r6 := own_set_obj r5 a5 ht (i := 6) v6
  have r7 := own_set_obj r6 a6 ht (i := 7) v7
  have r8 := own_set_obj r7 a7 ht (i := 8) v8
  have r9 := own_set_obj r8 a8 ht (i := 9) v9
  have r10 := own_set_obj r9 a9 ht (i := 10) v10
  exact own_set_obj r10 a10 ht (i := 11) v11
theorem wpList_copy_to {W : World} {ops : Array Oper} {rest : List Oper} {o : Oper} {a : Act} {Q : Exit → Act → World → Prop} (hw : Region.wanted o (yielded ops a.tmps) = true) (s x : Operand)
    (ho : o.op = .call { callee := .builtin .append, args := #[s, x], argTypes := #[45, 45] })
    (hs : a.eval s = .slice (some ⟨W.heap.size, 0, none⟩) 0 0) (vx : Value) (L : List TO) (n : Nat) (hn : n = L.length) (hx : a.eval x = vx) (hxv : TOV W vx L) (hlen : n * 48 ≤ 140737488355328)
    (h : ∀ A' c' w', TOO w' W.heap.size (.slice A' n c') L → Gr W w' → wpList Tryz.prog ops Q rest (a.put o.dst (.slice A' n c')) w') :
    wpList Tryz.prog ops Q (o :: rest) a (W.alloc (.cells #[] 52)) := by
  subst hn
  obtain ⟨i0, hi, hz0, hz1, hz2⟩ := info_parts infoTOp
  refine Go.BigFrame.wpList_want hw (fun K hK => ?_)
  refine wp_append_sl _ s x 45 ho W.heap.size 52 i0 _ 4 48 Tryz.underlying45 hi hz0 hz1 hz2 rfl (by decide) _ 0 [] hs (own_none W _ 4) vx L.length (tocells L) hx
    (hxv.gr (gr_box W _)).sl (tocells_one L) (by unfold maxLen; omega) (by omega) (by simp) L.length (Nat.zero_add _) ?_
  intro A' c' w' hown' hgr _
  refine hK _ _ (h A' c' w' (by rw [List.nil_append] at hown'; exact hown') (gr_of_grown (gr_box W _) (own_none W _ 4) hgr (by simp)))
set_option maxRecDepth 100000 in
set_option maxHeartbeats 4000000 in
/-- The document's Copy. -/
theorem rcopy8_own (t : TX) (v : Value) (w : World) (hv : TOV w v t.ops) (hlen : t.ops.length * 48 ≤ 140737488355328) :
    Calls Tryz.prog 52 #[.agg (tcs t v)] w fun e w' => ∃ u, e = .returned (.agg (tcs t u)) ∧ TOO w' w.heap.size u t.ops ∧ Gr w w' := by
  obtain ⟨A, c, rfl⟩ := tov_form hv
  obtain ⟨n, hn⟩ : ∃ n, n = t.ops.length := ⟨_, rfl⟩
  rw [← hn] at hv hlen ⊢
  obtain ⟨W, hW, hg, h1, h2⟩ : ∃ W, W = (w.alloc (.cells (tcs t (.slice A n c)) 47)).alloc (.cells zeroX 47) ∧ Gr w W ∧ W.heap[w.heap.size]? = some (.cells (tcs t (.slice A n c)) 47 (0, 0)) ∧ W.heap[w.heap.size + 1]? = some (.cells zeroX 47 (0, 0)) := by
    refine ⟨_, rfl, ((Gr.refl w).alloc _).alloc _, ?_, ?_⟩ <;> (simp only [World.alloc, Array.getElem?_push, Array.size_push]; simp)
  have HG := Lib.hid hg
  have HV := Lib.hid (hv.gr hg)
  have HN := Lib.hid hn
  have H1 := Lib.hid h1
  have H2 := Lib.hid h2
  have q11 : (W.alloc (.cells #[] 52)).cell? ⟨w.heap.size, 11, none⟩ = some (.slice A n c) := by rw [cell_of_block (gr_obj (gr_box W _) h1)]; rfl
  clear hg hv hn h1 h2
  go_enter Tryz.func52, Tryz.ntmps52
  go_upto_region 1 with (fail)
  rw [← hW]
  clear hW
  go_upto_region 2 with (at_builtin; refine wpList_copy_to rfl (.tmp 3) (.tmp 5) rfl rfl (.slice A n c) t.ops n HN.out rfl HV.out hlen ?_; intro A2 c2 w2 hp2 g2; have p11 : w2.cell? ⟨w.heap.size, 11, none⟩ = some (.slice A n c) := (by rw [cell_of_block (gr_obj g2 H1.out)]; rfl); have f11 : w2.frozen? ⟨w.heap.size, 11, none⟩ = false := unfrozen_of_block (gr_obj g2 H1.out) 11; have HP2 := Lib.hid hp2; have HG2 := Lib.hid g2; clear hp2 g2 q11)
  have h1 : (w2.setCell ⟨w.heap.size, 11, none⟩ (.slice A2 n c2)).heap[w.heap.size]? = some (.cells (tcs t (.slice A2 n c2)) 47 (0, 0)) := set_obj (gr_obj HG2.out H1.out) _
  have h2 : (w2.setCell ⟨w.heap.size, 11, none⟩ (.slice A2 n c2)).heap[w.heap.size + 1]? = some (.cells zeroX 47 (0, 0)) := set_obj_other (gr_obj HG2.out H2.out) (by omega) _
  have hg5 : Gr w (w2.setCell ⟨w.heap.size, 11, none⟩ (.slice A2 n c2)) := (HG.out.trans HG2.out).setCell (Nat.le_refl _) _
  have ho5 : TOO (w2.setCell ⟨w.heap.size, 11, none⟩ (.slice A2 n c2)) W.heap.size (.slice A2 n c2) t.ops := own_set_obj HP2.out (gr_obj HG2.out H1.out) (by decide) _
  obtain ⟨w5, hw5⟩ : ∃ x, x = w2.setCell ⟨w.heap.size, 11, none⟩ (.slice A2 n c2) := ⟨_, rfl⟩
  rw [← hw5] at h1 h2 hg5 ho5 ⊢
  have p0 : w5.cell? ⟨w.heap.size, 0, none⟩ = some (.int .i64 t.origin) := by rw [cell_of_block h1]; rfl
  have p1 : w5.cell? ⟨w.heap.size, 1, none⟩ = some (.int .u64 (t.seq : Int)) := by rw [cell_of_block h1]; rfl
  have p2 : w5.cell? ⟨w.heap.size, 2, none⟩ = some (.int .u64 (t.stamp : Int)) := by rw [cell_of_block h1]; rfl
  have p3 : w5.cell? ⟨w.heap.size, 3, none⟩ = some (.int .u64 (t.deps 0 : Int)) := by rw [cell_of_block h1]; rfl
  have p4 : w5.cell? ⟨w.heap.size, 4, none⟩ = some (.int .u64 (t.deps 1 : Int)) := by rw [cell_of_block h1]; rfl
  have p5 : w5.cell? ⟨w.heap.size, 5, none⟩ = some (.int .u64 (t.deps 2 : Int)) := by rw [cell_of_block h1]; rfl
  have p6 : w5.cell? ⟨w.heap.size, 6, none⟩ = some (.int .u64 (t.deps 3 : Int)) := by rw [cell_of_block h1]; rfl
  have p7 : w5.cell? ⟨w.heap.size, 7, none⟩ = some (.int .u64 (t.deps 4 : Int)) := by rw [cell_of_block h1]; rfl
  have p8 : w5.cell? ⟨w.heap.size, 8, none⟩ = some (.int .u64 (t.deps 5 : Int)) := by rw [cell_of_block h1]; rfl
  have p9 : w5.cell? ⟨w.heap.size, 9, none⟩ = some (.int .u64 (t.deps 6 : Int)) := by rw [cell_of_block h1]; rfl
  have p10 : w5.cell? ⟨w.heap.size, 10, none⟩ = some (.int .u64 (t.deps 7 : Int)) := by rw [cell_of_block h1]; rfl
  have p11 : w5.cell? ⟨w.heap.size, 11, none⟩ = some (.slice A2 n c2) := by rw [cell_of_block h1]; rfl
  have z0 : w5.cell? ⟨w.heap.size + 1, 0, none⟩ = some (.int .i64 0) := by rw [cell_of_block h2]; rfl
  have z1 : w5.cell? ⟨w.heap.size + 1, 1, none⟩ = some (.int .u64 0) := by rw [cell_of_block h2]; rfl
  have z2 : w5.cell? ⟨w.heap.size + 1, 2, none⟩ = some (.int .u64 0) := by rw [cell_of_block h2]; rfl
  have z3 : w5.cell? ⟨w.heap.size + 1, 3, none⟩ = some (.int .u64 0) := by rw [cell_of_block h2]; rfl
  have z4 : w5.cell? ⟨w.heap.size + 1, 4, none⟩ = some (.int .u64 0) := by rw [cell_of_block h2]; rfl
  have z5 : w5.cell? ⟨w.heap.size + 1, 5, none⟩ = some (.int .u64 0) := by rw [cell_of_block h2]; rfl
  have z6 : w5.cell? ⟨w.heap.size + 1, 6, none⟩ = some (.int .u64 0) := by rw [cell_of_block h2]; rfl
  have z7 : w5.cell? ⟨w.heap.size + 1, 7, none⟩ = some (.int .u64 0) := by rw [cell_of_block h2]; rfl
  have z8 : w5.cell? ⟨w.heap.size + 1, 8, none⟩ = some (.int .u64 0) := by rw [cell_of_block h2]; rfl
  have z9 : w5.cell? ⟨w.heap.size + 1, 9, none⟩ = some (.int .u64 0) := by rw [cell_of_block h2]; rfl
  have z10 : w5.cell? ⟨w.heap.size + 1, 10, none⟩ = some (.int .u64 0) := by rw [cell_of_block h2]; rfl
  have z11 : w5.cell? ⟨w.heap.size + 1, 11, none⟩ = some (.slice none 0 0) := by rw [cell_of_block h2]; rfl
  have k0 := unfrozen_of_block h2 0
  have k1 := unfrozen_of_block h2 1
  have k2 := unfrozen_of_block h2 2
  have k3 := unfrozen_of_block h2 3
  have k4 := unfrozen_of_block h2 4
  have k5 := unfrozen_of_block h2 5
  have k6 := unfrozen_of_block h2 6
  have k7 := unfrozen_of_block h2 7
  have k8 := unfrozen_of_block h2 8
  have k9 := unfrozen_of_block h2 9
  have k10 := unfrozen_of_block h2 10
  have k11 := unfrozen_of_block h2 11
  have HB2 := Lib.hid h2
  have HG5 := Lib.hid hg5
  have HO5 := Lib.hid ho5
  clear h1 h2 hg5 ho5 hw5
  go_wp2_with fail
  obtain ⟨e2, howns, hgrs⟩ := stored12_facts (.int .i64 t.origin) (.int .u64 (t.seq : Int)) (.int .u64 (t.stamp : Int)) (.int .u64 (t.deps 0 : Int)) (.int .u64 (t.deps 1 : Int)) (.int .u64 (t.deps 2 : Int)) (.int .u64 (t.deps 3 : Int)) (.int .u64 (t.deps 4 : Int)) (.int .u64 (t.deps 5 : Int)) (.int .u64 (t.deps 6 : Int)) (.int .u64 (t.deps 7 : Int)) (.slice A2 n c2) HB2.out
  have hown5 := howns HO5.out (by decide)
  have hgr5 := hgrs HG5.out (Nat.le_succ _)
  clear howns hgrs p0 p1 p2 p3 p4 p5 p6 p7 p8 p9 p10 p11 z0 z1 z2 z3 z4 z5 z6 z7 z8 z9 z10 z11 k0 k1 k2 k3 k4 k5 k6 k7 k8 k9 k10 k11
  obtain ⟨WF, hWF⟩ : ∃ x, x = stored12 w5 (w.heap.size + 1) (.int .i64 t.origin) (.int .u64 (t.seq : Int)) (.int .u64 (t.stamp : Int)) (.int .u64 (t.deps 0 : Int)) (.int .u64 (t.deps 1 : Int)) (.int .u64 (t.deps 2 : Int)) (.int .u64 (t.deps 3 : Int)) (.int .u64 (t.deps 4 : Int)) (.int .u64 (t.deps 5 : Int)) (.int .u64 (t.deps 6 : Int)) (.int .u64 (t.deps 7 : Int)) (.slice A2 n c2) := ⟨_, rfl⟩
  rw [← hWF] at e2 hown5 hgr5
  unfold stored12 at hWF
  rw [← hWF]
  have z0 : WF.cell? ⟨w.heap.size + 1, 0, none⟩ = some (.int .i64 t.origin) := by rw [cell_of_block e2]; rfl
  have z1 : WF.cell? ⟨w.heap.size + 1, 1, none⟩ = some (.int .u64 (t.seq : Int)) := by rw [cell_of_block e2]; rfl
  have z2 : WF.cell? ⟨w.heap.size + 1, 2, none⟩ = some (.int .u64 (t.stamp : Int)) := by rw [cell_of_block e2]; rfl
  have z3 : WF.cell? ⟨w.heap.size + 1, 3, none⟩ = some (.int .u64 (t.deps 0 : Int)) := by rw [cell_of_block e2]; rfl
  have z4 : WF.cell? ⟨w.heap.size + 1, 4, none⟩ = some (.int .u64 (t.deps 1 : Int)) := by rw [cell_of_block e2]; rfl
  have z5 : WF.cell? ⟨w.heap.size + 1, 5, none⟩ = some (.int .u64 (t.deps 2 : Int)) := by rw [cell_of_block e2]; rfl
  have z6 : WF.cell? ⟨w.heap.size + 1, 6, none⟩ = some (.int .u64 (t.deps 3 : Int)) := by rw [cell_of_block e2]; rfl
  have z7 : WF.cell? ⟨w.heap.size + 1, 7, none⟩ = some (.int .u64 (t.deps 4 : Int)) := by rw [cell_of_block e2]; rfl
  have z8 : WF.cell? ⟨w.heap.size + 1, 8, none⟩ = some (.int .u64 (t.deps 5 : Int)) := by rw [cell_of_block e2]; rfl
  have z9 : WF.cell? ⟨w.heap.size + 1, 9, none⟩ = some (.int .u64 (t.deps 6 : Int)) := by rw [cell_of_block e2]; rfl
  have z10 : WF.cell? ⟨w.heap.size + 1, 10, none⟩ = some (.int .u64 (t.deps 7 : Int)) := by rw [cell_of_block e2]; rfl
  have z11 : WF.cell? ⟨w.heap.size + 1, 11, none⟩ = some (.slice A2 n c2) := by rw [cell_of_block e2]; rfl
  clear e2 hWF
  refine bodyPost_ret (v := .agg (tcs t (.slice A2 n c2))) (by simp [results, Tryz.results52, go_sem, *]) rfl ?_
  exact ⟨_, rfl, own_le hown5 HG.out.size, hgr5⟩
end Go.Proofs.YtnjmgknicffcbaaGreatDoor
