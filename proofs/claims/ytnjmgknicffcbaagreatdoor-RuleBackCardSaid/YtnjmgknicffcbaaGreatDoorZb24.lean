/- Walks: the program's Closed. Walks: the deeds on a key. -/
import Derived.Test.YtnjmgknicffcbaaGreatDoorZb22
import Derived.Test.YtnjmgknicffcbaaGreatDoorZb23
namespace Go.Proofs.YtnjmgknicffcbaaGreatDoor
open Go.RowKit Go.Joins

/-- The transactions of the first k logs, as far as the cut goes, depend on nothing beyond it. -/
def closedTo (l : LG) (v : Nat → Nat) (k : Nat) : Prop := ∀ i d t, i < k → d < v i → (l i)[d]? = some t → leqB t.deps v = true
def closedIn (l : LG) (v : Nat → Nat) (i k : Nat) : Prop := ∀ d t, d < k → (l i)[d]? = some t → leqB t.deps v = true
theorem closedTo_next {l : LG} {v : Nat → Nat} {k : Nat} (h : closedTo l v k) (h2 : closedIn l v k (v k)) : closedTo l v (k + 1) := fun i d t hi hd ht => by
  by_cases e : i = k
  · subst e; exact h2 d t hd ht
  · exact h i d t (by omega) hd ht
theorem closedIn_next {l : LG} {v : Nat → Nat} {i d : Nat} {t : TX} (h : closedIn l v i d) (ht : (l i)[d]? = some t) (h2 : leqB t.deps v = true) : closedIn l v i (d + 1) := fun e u he hu => by
  by_cases q : e = d
  · subst q
    rw [ht] at hu
    injection hu with hu
    rw [← hu]; exact h2
  · exact h e u (by omega) hu
theorem closedB_no {l : LG} {v : Nat → Nat} (h : ¬ closedP l v) : closedB l v = false := by
  rw [Bool.eq_false_iff]
  exact fun e => h (closedB_iff.1 e)
theorem closedB_yes {l : LG} {v : Nat → Nat} (h : closedP l v) : closedB l v = true := closedB_iff.2 h
set_option maxRecDepth 100000 in
theorem slice_txs (A : Option Addr) {n c k : Nat} (hk : k ≤ c) (W : World) : (Instr.slice 23 (.slice A n c) none (some (.int .u64 (k : Int))) none).run Tryz.prog W = .ok (.slice A k c) W := by
  have hz : ∀ W : World, (sizeOf (Tryz.prog.elem 23)).run Tryz.prog W = .ok 12 W := fun W => by show _ = _; kernel_rfl
  rw [run_slice_h W _ A n c Tryz.underlying23 .u64 (k : Int) (by omega) (by omega), hz]
  show Result.ok (sliced A 0 (k : Int).toNat c 12) W = _
  unfold sliced
  rw [Int.toNat_natCast]
  cases A with
  | none => simp
  | some a => simp [Addr.add]
theorem LV.cap {w : World} {u : Nat → S3} {l : LG} (h : LV w u l) {i : Nat} (hi : i < 8) : (l i).length ≤ (u i).c ∧ (u i).c ≤ maxLen := by
  obtain ⟨A, c, hv, h1, ⟨h2, _⟩, _⟩ := h i hi
  injection hv with e1 e2 e3
  rw [e3]
  exact ⟨h1, h2⟩

set_option maxRecDepth 100000 in
set_option maxHeartbeats 2000000 in
theorem closed_any (u : Nat → S3) (l : LG) (v : Nat → Nat) (w : World) (h : LV w u l) :
    Calls Tryz.prog 50 #[.agg (lcells u), .agg (vcells v)] w fun e w' => e = .returned (.bool (closedB l v)) ∧ Gr w w' := by
  obtain ⟨W, hW, hg, hsz, hL, hV⟩ := boxesLV u v w
  have HL := Lib.hid hL
  have HV := Lib.hid hV
  have HG := Lib.hid hg
  have HX := Lib.hid (h.gr hg)
  have HSZ := Lib.hid (fun w1 (g : Gr W w1) => size_any u l w1 ((h.gr hg).gr g))
  have HLQ := Lib.hid (fun w1 => leq_any v (sizeV l) w1)
  obtain ⟨r, hr⟩ : ∃ r, r = leqB v (sizeV l) := ⟨_, rfl⟩
  rw [← hr] at HLQ
  have HR0 := Lib.hid hr
  clear hL hV hg hsz h hr
  go_enter Tryz.func50, Tryz.ntmps50
  go_upto_region 1 with (fail)
  rw [← hW]
  clear hW
  refine qRegion (fun w' => LC w' w.heap.size u ∧ VC w' (w.heap.size + 1) v ∧ Gr W w') (by kernel_rfl) (by kernel_rfl) ⟨HL.out.lc.gr (Gr.refl _).drew, HV.out.vc.gr (Gr.refl _).drew, (Gr.refl _).drew⟩ ?_
  iterate 2
    refine qTake (by kernel_rfl) ?_
    apply Exists.intro
    refine ⟨fun wq hq => ?_, ?_⟩
    · go_light
      obtain ⟨⟨l0, l1, l2, l3, l4, l5, l6, l7⟩, ⟨h0, h1, h2, h3, h4, h5, h6, h7⟩, hg⟩ := hq
      go_simp
      try with_reducible rfl
      done
    try simp only [Act.put, List.setIfInBounds_toArray, List.set_cons_zero, List.set_cons_succ]
  refine qCall (by kernel_rfl) ?_
  apply Exists.intro
  refine ⟨?_, ?_⟩
  · apply Exists.intro
    apply Exists.intro
    refine ⟨fun wq => ?_, fun wq hq => ?_⟩
    · go_light
      go_simp
      exact ⟨rfl, rfl⟩
    · exact (HSZ.out wq hq.2.2).mono fun e w'' ⟨he, hg⟩ => ⟨he, hq.1.gr hg, hq.2.1.gr hg, hq.2.2.trans hg⟩
  try simp only [Act.put, List.setIfInBounds_toArray, List.set_cons_zero, List.set_cons_succ]
  refine qCall (by kernel_rfl) ?_
  apply Exists.intro
  refine ⟨?_, ?_⟩
  · apply Exists.intro
    apply Exists.intro
    refine ⟨fun wq => ?_, fun wq hq => ?_⟩
    · go_light
      go_simp
      exact ⟨rfl, rfl⟩
    · exact (HLQ.out wq).mono fun e w'' ⟨he, hg⟩ => ⟨he, hq.1.gr hg, hq.2.1.gr hg, hq.2.2.trans hg⟩
  try simp only [Act.put, List.setIfInBounds_toArray, List.set_cons_zero, List.set_cons_succ]
  iterate 1
    refine qTake (by kernel_rfl) ?_
    apply Exists.intro
    refine ⟨fun wq hq => ?_, ?_⟩
    · go_light
      obtain ⟨⟨l0, l1, l2, l3, l4, l5, l6, l7⟩, ⟨h0, h1, h2, h3, h4, h5, h6, h7⟩, hg⟩ := hq
      go_simp
      try with_reducible rfl
      done
    try simp only [Act.put, List.setIfInBounds_toArray, List.set_cons_zero, List.set_cons_succ]
  refine qNil ?_
  rintro w3 ⟨hl3, hx3, hg3⟩
  have HG3 := Lib.hid hg3
  clear hx3 hg3
  rcases r with _ | _
  · have HF := Lib.hid (closedB_no (l := l) (v := v) fun hc => by have := hc.1; rw [← HR0.out] at this; cases this)
    clear hl3
    go_wp2_with fail
    go_ret
    exact ⟨by rw [HF.out]; rfl, HG.out.trans HG3.out⟩
  · have HR := Lib.hid HR0.out.symm
    simp only [Bool.not_true]
    obtain ⟨l0, l1, l2, l3, l4, l5, l6, l7⟩ := hl3
    go_wp2_with fail
    clear l0 l1 l2 l3 l4 l5 l6 l7
    go_loopw [15] (fun i wr => ∃ k : Nat, k ≤ 8 ∧ i = .int .i64 k ∧ Hid (closedTo l v k) ∧ Gr W wr) (fun i _ => 8 - (intOf i).toNat)
    case atStart => exact ⟨0, by decide, rfl, Lib.hid (fun i d t hi => absurd hi (Nat.not_lt_zero _)), HG3.out⟩
    case round =>
      obtain ⟨k, hk, rfl, hct, hgr⟩ := hrel
      rename World => wo
      by_cases hlt : k < 8
      · have hk0 : (0 : Int) ≤ (k : Int) := Int.natCast_nonneg _
        have hk8 : (k : Int) < 8 := by omega
        have hc := (HV.out.gr hgr).at hlt
        have hn := HX.out.len hlt
        have hvl : v k ≤ (l k).length := lq HR.out hlt
        obtain ⟨hcap, hcm⟩ := HX.out.cap hlt
        have hle := HX.out.le hlt
        have hix := fun W => run_index_logs u hlt W
        obtain ⟨A, hA⟩ : ∃ A, A = (u k).a := ⟨_, rfl⟩
        rw [← hA] at hix
        have HA := Lib.hid hA
        have hsl := fun W => slice_txs A (n := (u k).n) (k := v k) (c := (u k).c) (by omega) W
        clear hA
        have HGR := Lib.hid hgr
        clear hgr
        go_wp2_with fail
        go_loopw [25] (fun i wx => ∃ d : Nat, d ≤ v k ∧ i = .int .i64 d ∧ Hid (closedIn l v k d) ∧ Gr wo wx) (fun i _ => v k - (intOf i).toNat)
        case atStart => exact ⟨0, Nat.zero_le _, rfl, Lib.hid (fun d t hd => absurd hd (Nat.not_lt_zero _)), Gr.refl _⟩
        case round =>
          obtain ⟨d, hd, rfl, hci, hgx⟩ := hrel
          rename World => wx
          by_cases hdv : d < v k
          · have hdl : d < (l k).length := by omega
            obtain ⟨b, off, ha, xv, hx0, hx⟩ := (HX.out.gr (HGR.out.trans hgx)).cell hlt hdl
            rw [← HA.out] at ha
            subst ha
            obtain ⟨t, ht⟩ : ∃ t, t = (l k)[d] := ⟨_, rfl⟩
            rw [← ht] at hx0 hx
            obtain ⟨Ax, cx, rfl⟩ := tov_form hx0
            obtain ⟨nx, hnx⟩ : ∃ n, n = t.ops.length := ⟨_, rfl⟩
            rw [← hnx] at hx
            obtain ⟨x0, x1, x2, x3, x4, x5, x6, x7, x8, x9, x10, x11⟩ := hx
            obtain ⟨W5, hW5, hg5, hx5⟩ := xbox wx t (.slice Ax nx cx)
            have HV5 := Lib.hid ((HV.out.gr (HGR.out.trans (hgx.trans hg5))).vc)
            have HG5 := Lib.hid (hgx.trans hg5)
            have HT := Lib.hid (show (l k)[d]? = some t by rw [ht]; exact List.getElem?_eq_getElem hdl)
            have HLT := Lib.hid (fun w1 => leq_any t.deps v w1)
            obtain ⟨r, hr⟩ : ∃ r, r = leqB t.deps v := ⟨_, rfl⟩
            rw [← hr] at HLT
            have HRT := Lib.hid hr
            have hd0 : (0 : Int) ≤ (d : Int) := by omega
            have hd1 : (d : Int) < (v k : Int) := by omega
            clear hx0 ht hnx hgx hg5 hr hc hix hsl
            go_upto_region 9 with (fail)
            rw [← hW5]
            clear hW5 x0 x1 x2 x3 x4 x5 x6 x7 x8 x9 x10 x11
            obtain ⟨y0, y1, y2, y3, y4, y5, y6, y7⟩ := HV5.out
            obtain ⟨p0, p1, p2, p3, p4, p5, p6, p7, p8, p9, p10, p11⟩ := hx5
            go_wp2_with fail
            refine (HLT.out _).mono ?_
            rintro e w6 ⟨rfl, g6⟩
            have HG6 := Lib.hid (HG5.out.trans g6)
            clear g6 y0 y1 y2 y3 y4 y5 y6 y7 p0 p1 p2 p3 p4 p5 p6 p7 p8 p9 p10 p11
            rcases r with _ | _
            · have HF := Lib.hid (closedB_no (l := l) (v := v) fun hc => by have := hc.2 k d t hlt hdv HT.out; rw [← HRT.out] at this; cases this)
              go_wp2_with fail
              go_ret
              exact ⟨by rw [HF.out]; rfl, HG.out.trans (HGR.out.trans HG6.out)⟩
            · have HC2 := Lib.hid (closedIn_next hci.out HT.out HRT.out.symm)
              go_wp2_with fail
              go_roundw
              case measure => simp [intOf]; omega
              case rel => exact ⟨d + 1, by omega, by go_num, HC2, HG6.out⟩
          · obtain rfl : d = v k := by omega
            have HC2 := Lib.hid (closedTo_next hct.out hci.out)
            have HG6 := Lib.hid (HGR.out.trans hgx)
            clear hgx
            go_wp2_with fail
            go_roundw
            case measure => simp [intOf]; omega
            case rel => exact ⟨k + 1, by omega, by go_num, HC2, HG6.out⟩
      · obtain rfl : k = 8 := by omega
        have HF := Lib.hid (closedB_yes (l := l) (v := v) ⟨HR.out, hct.out⟩)
        have HGR := Lib.hid hgr
        clear hgr
        go_wp2_with fail
        go_ret
        exact ⟨by rw [HF.out]; rfl, HG.out.trans HGR.out⟩
end Go.Proofs.YtnjmgknicffcbaaGreatDoor
namespace Go.Proofs.YtnjmgknicffcbaaGreatDoor
open Go.RowKit Go.Joins

/-- What the rounds of deedsOn leave. -/
structure DsR (w W : World) (L : List (TX × Nat)) (s : Value) (D : List DD) (wr : World) : Prop where
  own : DO wr W.heap.size s D
  sh : dsh D = L
  xs : DXs w D
  gr : Gr W wr
theorem DsR.next {w W : World} {L : List (TX × Nat)} {s : Value} {D : List DD} {wr w' : World} (h : DsR w W L s D wr) (g : Gr wr w') : DsR w W L s D w' := ⟨h.own.gr g, h.sh, h.xs, h.gr.trans g⟩
theorem opbox (w : World) (o : TO) : ∃ W, W = w.alloc (.cells (opv o) 52) ∧ Gr w W ∧ TCell W w.heap.size 0 o := by
  refine ⟨_, rfl, (Gr.refl w).alloc _, ?_⟩
  unfold TCell
  refine ⟨?_, ?_, ?_, ?_⟩ <;> (rw [World.cell?_alloc_at _ _ _ _ rfl]; rfl)
theorem slice_dd {w : World} {B : Nat} {s : Value} {D : List DD} (h : DO w B s D) : ∃ A c, s = .slice A D.length c := dv_form h.dv

set_option maxRecDepth 100000 in
set_option maxHeartbeats 4000000 in
theorem deeds_any (u : Nat → S3) (l : LG) (v : Nat → Nat) (key : ByteArray) (w : World) (h : LV w u l) (hv : leqB v (sizeV l) = true) (hops : ∀ i t, i < 8 → t ∈ l i → t.ops.length ≤ 8) (hlen : ∀ i, i < 8 → v i ≤ 1024) :
    Calls Tryz.prog 163 #[.agg (lcells u), .agg (vcells v), .string key] w fun e w' => ∃ s D, e = .returned s ∧ DsR w w (dAll key l v 8) s D w' := by
  obtain ⟨W, hW, hg, hsz, hL, hV⟩ := boxesLV u v w
  have HV := Lib.hid hV
  have HG := Lib.hid hg
  have HX := Lib.hid (h.gr hg)
  have HX0 := Lib.hid h
  have HVS := Lib.hid hv
  have HOP := Lib.hid hops
  have HVL := Lib.hid hlen
  have HDA := Lib.hid (fun i (hi : i ≤ 8) => dAll_len key l v hops hlen i hi)
  have HDL := Lib.hid (fun i (hi : i < 8) d => dLog_len key l i (fun t ht => hops i t hi ht) d)
  have HDT := Lib.hid (fun t j => dTx_len key t j)
  obtain ⟨l0, l1, l2, l3, l4, l5, l6, l7⟩ := hL.all
  clear hL hV hg hsz h hv hops hlen
  go_enter Tryz.func163, Tryz.ntmps163
  go_upto_region 1 with (fail)
  rw [← hW]
  clear hW
  go_wp2_with fail
  clear l0 l1 l2 l3 l4 l5 l6 l7
  go_loopw [7, 15] (fun s i wr => ∃ k : Nat, k ≤ 8 ∧ i = .int .i64 k ∧ Hid (∃ D, DsR w W (dAll key l v k) s D wr)) (fun _ i _ => 8 - (intOf i).toNat)
  case atStart => exact ⟨0, by decide, rfl, Lib.hid ⟨[], ⟨DO.nil _ _, rfl, fun _ h => (by cases h), Gr.refl _⟩⟩⟩
  case round =>
    obtain ⟨k, hk, rfl, hst⟩ := hrel
    rename World => wo
    by_cases hlt : k < 8
    · have hk0 : (0 : Int) ≤ (k : Int) := Int.natCast_nonneg _
      have hk8 : (k : Int) < 8 := by omega
      have hix := fun W => run_index_logs u hlt W
      obtain ⟨D0, hd0⟩ := hst.out
      have hc := (HV.out.gr hd0.gr).at hlt
      have hvl : v k ≤ (l k).length := lq HVS.out hlt
      obtain ⟨Ak, ck, hxv, hnc, -, hcell⟩ := HX.out k hlt
      injection hxv with e1 e2 e3
      obtain ⟨A, hA⟩ : ∃ A, A = (u k).a := ⟨_, rfl⟩
      obtain ⟨n, hn⟩ : ∃ n, n = (u k).n := ⟨_, rfl⟩
      obtain ⟨c, hcc⟩ : ∃ c, c = (u k).c := ⟨_, rfl⟩
      obtain ⟨m, hm⟩ : ∃ m, m = v k := ⟨_, rfl⟩
      rw [← hA, ← hn, ← hcc] at hix
      rw [← hm] at hc hvl
      have hnl : n = (l k).length := by rw [hn, e2]
      have hmc : m ≤ c := by rw [hcc, e3]; omega
      have hsl := fun W => slice_txs A (n := n) (k := m) (c := c) hmc W
      have HA := Lib.hid hA
      have HN := Lib.hid hnl
      have HM := Lib.hid hm
      have HML := Lib.hid hvl
      have HC := Lib.hid hc
      have HD0 := Lib.hid hd0
      clear hA hn hcc hm hnl hmc e1 e2 e3 hnc hcell hd0 hst hvl
      go_wp2_with fail
      clear hix hsl
      go_loopw [7, 25] (fun s i wr => ∃ d : Nat, d ≤ m ∧ i = .int .i64 d ∧ Hid (∃ D, DsR w W (dAll key l v k ++ dLog key l k d) s D wr)) (fun _ i _ => m - (intOf i).toNat)
      case atStart => exact ⟨0, Nat.zero_le _, rfl, Lib.hid ⟨D0, ⟨HD0.out.own, by rw [HD0.out.sh]; exact (List.append_nil _).symm, HD0.out.xs, HD0.out.gr⟩⟩⟩
      case round =>
        obtain ⟨d, hd, rfl, hst⟩ := hrel
        rename World => wi
        by_cases hdm : d < m
        · have hdl : d < (l k).length := by have := HML.out; omega
          have hd0 : (0 : Int) ≤ (d : Int) := Int.natCast_nonneg _
          have hdn : (d : Int) < (n : Int) := by have := HN.out; omega
          have hdm1 : (d : Int) < (m : Int) := by omega
          obtain ⟨D1, hd1⟩ := hst.out
          obtain ⟨b, off, ha, hxc⟩ := HX0.out.cell hlt hdl
          rw [← HA.out] at ha
          subst ha
          obtain ⟨t, ht⟩ : ∃ t, t = (l k)[d] := ⟨_, rfl⟩
          rw [← ht] at hxc
          have HT := Lib.hid (show (l k)[d]? = some t by rw [ht]; exact List.getElem?_eq_getElem hdl)
          have hto : t.ops.length ≤ 8 := HOP.out k t hlt (by rw [ht]; exact List.getElem_mem hdl)
          have HXC := Lib.hid hxc
          obtain ⟨vx, hvx, x0, x1, x2, x3, x4, x5, x6, x7, x8, x9, x10, x11⟩ := hxc
          obtain ⟨Ax, cx, rfl, hxn, -, hxat⟩ := hvx
          obtain ⟨nx, hnx⟩ : ∃ n, n = t.ops.length := ⟨_, rfl⟩
          rw [← hnx] at x11
          have x11 := (HG.out.trans hd1.gr).cell x11
          have HNX := Lib.hid hnx
          have HXA : Hid (∀ j (hj : j < t.ops.length), ∃ b off, Ax = some ⟨b, off, none⟩ ∧ TCell w b (off + j * 4) t.ops[j]) := Lib.hid hxat
          have HD1 := Lib.hid hd1
          have hnx8 : nx ≤ 8 := by omega
          clear x0 x1 x2 x3 x4 x5 x6 x7 x8 x9 x10 hxn hxat hnx hd1 hst ht hto
          go_wp2_with fail
          go_loopw [7, 36] (fun s i wr => ∃ j : Nat, j ≤ nx ∧ i = .int .i64 j ∧ Hid (∃ D, DsR w W (dAll key l v k ++ dLog key l k d ++ dTx key t j) s D wr)) (fun _ i _ => nx - (intOf i).toNat)
          case atStart => exact ⟨0, Nat.zero_le _, rfl, Lib.hid ⟨D1, ⟨HD1.out.own, by rw [HD1.out.sh]; exact (List.append_nil _).symm, HD1.out.xs, HD1.out.gr⟩⟩⟩
          case round =>
            clear x11
            obtain ⟨j, hj, rfl, hst⟩ := hrel
            rename World => wr
            by_cases hjn : j < nx
            · have hjl : j < t.ops.length := by rw [← HNX.out]; exact hjn
              have hj0 : (0 : Int) ≤ (j : Int) := Int.natCast_nonneg _
              have hjn1 : (j : Int) < (nx : Int) := by omega
              obtain ⟨D2, hd2⟩ := hst.out
              obtain ⟨bo, oo, rfl, hoc⟩ := HXA.out j hjl
              obtain ⟨o, ho⟩ : ∃ o, o = t.ops[j] := ⟨_, rfl⟩
              rw [← ho] at hoc
              have HO := Lib.hid (show t.ops[j]? = some o by rw [ho]; exact List.getElem?_eq_getElem hjl)
              obtain ⟨o0, o1, o2, o3⟩ := hoc.gr (HG.out.trans hd2.gr)
              obtain ⟨W5, hW5, hg5, hx5⟩ := opbox wr o
              obtain ⟨A2, c2, hs2⟩ := slice_dd hd2.own
              subst hs2
              have hlen2 : D2.length ≤ 8 * 8192 + 8192 + 8 := by
                have e1 : D2.length = (dsh D2).length := (List.length_map _).symm
                rw [e1, hd2.sh, List.length_append, List.length_append]
                have := HDA.out k (by omega)
                have := HDL.out k hlt d
                have := HDT.out t j
                have := HVL.out k hlt
                have := HM.out
                omega
              have hln : (D2.length + 1) * 16 ≤ 140737488355328 := by omega
              obtain ⟨n2, hn2⟩ : ∃ n, n = D2.length := ⟨_, rfl⟩
              rw [← hn2] at hln
              obtain ⟨q, hq⟩ : ∃ q, q = eqS o.key key := ⟨_, rfl⟩
              have t0 : (o.key.toList == key.toList) = q := hq.symm
              have HQ := Lib.hid hq
              have HD2 := Lib.hid (hd2.next hg5)
              have HN2 := Lib.hid hn2
              have HX5 := Lib.hid hx5
              have HB5 := Lib.hid (show wr.heap.size < W5.heap.size by rw [hW5]; simp)
              clear ho hoc hd2 hg5 hst hn2 hq hlen2
              go_upto_region 12 with (fail)
              rw [← hW5]
              clear o0 o1 o2 o3 hW5
              obtain ⟨y0, y1, y2, y3⟩ := hx5
              rcases q with _ | _
              · have HS : Hid (∃ D, DsR w W (dAll key l v k ++ dLog key l k d ++ dTx key t (j + 1)) (.slice A2 D2.length c2) D W5) := Lib.hid ⟨D2, by rw [dTx_no HO.out HQ.out.symm]; exact HD2.out⟩
                rw [← HN2.out] at HS ⊢
                go_wp2_with fail
                go_roundw
                case measure => simp [intOf]; omega
                case rel => exact ⟨j + 1, by omega, by go_num, HS⟩
              · have HDD : Hid (DX w ⟨b, off + d * 12, t, j⟩) := Lib.hid ⟨HXC.out, hjl⟩
                have HDO : Hid (DO (W5.alloc (.cells #[.pointer (some ⟨b, off + d * 12, none⟩), .int .i64 (j : Int)] 225)) W.heap.size (.slice A2 n2 c2) D2) := Lib.hid (by rw [HN2.out]; exact HD2.out.own.gr (gr_box _ _))
                rw [← HN2.out]
                clear hlt
                go_upto_region 14 with (at_builtin; refine wpList_push_dd (w0 := W) rfl (.tmp 45) (.tmp 49) rfl (.slice A2 n2 c2) (.slice (some ⟨W5.heap.size, 0, none⟩) 1 1) D2 [⟨b, off + d * 12, t, j⟩] n2 1 HN2.out rfl rfl HDO.out rfl (dv_one W5 ⟨b, off + d * 12, t, j⟩ _ rfl) hln (HD2.out.gr.alloc _) ?_; intro A9 c9 w9 hown9 hg9; have HO9 := Lib.hid hown9; have HG9 := Lib.hid hg9; clear hown9 hg9)
                have HS : Hid (∃ D, DsR w W (dAll key l v k ++ dLog key l k d ++ dTx key t (j + 1)) (.slice A9 (n2 + 1) c9) D w9) := Lib.hid ⟨D2 ++ [⟨b, off + d * 12, t, j⟩], ⟨HO9.out, by rw [dTx_yes HO.out HQ.out.symm, ← List.append_assoc, ← HD2.out.sh]; unfold dsh; rw [List.map_append]; rfl, fun x hx => by
                  rcases List.mem_append.1 hx with hx | hx
                  · exact HD2.out.xs x hx
                  · simp only [List.mem_singleton] at hx
                    subst hx
                    exact HDD.out, HG9.out⟩⟩
                go_wp2_with fail
                go_roundw
                case measure => simp [intOf]; omega
                case rel => exact ⟨j + 1, by omega, by go_num, HS⟩
            · obtain rfl : j = nx := by omega
              obtain ⟨D2, hd2⟩ := hst.out
              have HS : Hid (∃ D, DsR w W (dAll key l v k ++ dLog key l k (d + 1)) u7 D wr) := Lib.hid ⟨D2, ⟨hd2.own, by rw [dLog_at HT.out, ← HNX.out, ← List.append_assoc]; exact hd2.sh, hd2.xs, hd2.gr⟩⟩
              have hmb : m ≤ 1024 := by rw [HM.out]; exact HVL.out k hlt
              clear hd2 hst
              go_wp2_with fail
              go_roundw
              case measure => simp [intOf]; omega
              case rel => exact ⟨d + 1, by omega, by go_num, HS⟩
        · obtain rfl : d = m := by omega
          obtain ⟨D2, hd2⟩ := hst.out
          have HS : Hid (∃ D, DsR w W (dAll key l v (k + 1)) u7 D wi) := Lib.hid ⟨D2, ⟨hd2.own, by rw [hd2.sh, HM.out]; rfl, hd2.xs, hd2.gr⟩⟩
          clear hd2 hst
          go_wp2_with fail
          go_roundw
          case measure => simp [intOf]; omega
          case rel => exact ⟨k + 1, by omega, by go_num, HS⟩
    · obtain rfl : k = 8 := by omega
      obtain ⟨D2, hd2⟩ := hst.out
      have HS : Hid (∃ D, DsR w w (dAll key l v 8) u7 D wo) := Lib.hid ⟨D2, ⟨hd2.own.le HG.out.size, hd2.sh, hd2.xs, HG.out.trans hd2.gr⟩⟩
      clear hd2 hst
      go_wp2_with fail
      go_ret
      exact ⟨_, _, rfl, HS.out.choose_spec⟩
end Go.Proofs.YtnjmgknicffcbaaGreatDoor
