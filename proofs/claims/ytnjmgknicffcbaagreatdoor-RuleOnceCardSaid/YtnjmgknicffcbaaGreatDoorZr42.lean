/- Walks: does a rule hold at a sight? -/
import Derived.Test.YtnjmgknicffcbaaGreatDoorZr41
import Derived.OrdersHeld
import Derived.Deep.RegionHeld
namespace Go.Proofs.YtnjmgknicffcbaaGreatDoor
open Go.RowKit Go.Joins
set_option linter.unusedSimpArgs false
set_option linter.unusedVariables false

theorem valR_len (kind start : Int) (D : List DD) : (valR kind start D).e.length ≤ D.length + 1 := by
  have hu : ∀ a b, (riseT (elemsD (unsL a b D))).length ≤ D.length := fun a b => by
    have h1 := riseT_len (elemsD (unsL a b D))
    rw [elemsD_len] at h1
    have h2 := unsL_le a b D
    omega
  unfold valR
  split
  · exact Nat.zero_le _
  · split
    · have := hu 4 5
      exact Nat.le_succ_of_le this
    · split
      · have h1 : (firmL D).length ≤ (riseT (elemsD (kindF 4 D))).length := List.length_filter_le _ _
        have h2 := riseT_len (elemsD (kindF 4 D))
        rw [elemsD_len] at h2
        have h3 := kindF_le 4 D
        show (firmL D).length ≤ _
        omega
      · split
        · have := lastL_len D
          show (lastL D).length ≤ _
          omega
        · split
          · have := hu 6 6
            exact Nat.le_succ_of_le this
          · exact Nat.zero_le _
theorem valK_len {L : List RU} {l : LG} {v : Nat → Nat} {key : ByteArray} (hl : OkL l) (hv : leqB v (sizeV l) = true) : (valK L l v key).e.length ≤ 65537 := by
  have hop : ∀ i t, i < 8 → t ∈ l i → t.ops.length ≤ 8 := fun i t hi ht => by
    obtain ⟨k, hk⟩ := List.mem_iff_getElem?.1 ht
    exact (hl.tx i k t hi hk).1.2.2.1
  have hvl : ∀ i, i < 8 → v i ≤ 1024 := fun i hi => Nat.le_trans (lq hv hi) (hl.len i hi)
  unfold valK valV
  split
  · unfold valAt
    refine Nat.le_trans (valR_len _ _ _) ?_
    rw [List.length_map]
    have := dAll_len key l v hop hvl 8 (Nat.le_refl _)
    omega
  · exact Nat.zero_le _
theorem vfld0 (n : Int) (A : Option Addr) (m c : Nat) (o : Bool) (W : World) : (Instr.field 95 (.agg #[.int .i64 n, .slice A m c, .bool o]) 0).run Tryz.prog W = .ok (.int .i64 n) W := by kernel_rfl
theorem vfld1 (n : Int) (A : Option Addr) (m c : Nat) (o : Bool) (W : World) : (Instr.field 95 (.agg #[.int .i64 n, .slice A m c, .bool o]) 1).run Tryz.prog W = .ok (.slice A m c) W := by kernel_rfl
theorem vfld2 (n : Int) (A : Option Addr) (m c : Nat) (o : Bool) (W : World) : (Instr.field 95 (.agg #[.int .i64 n, .slice A m c, .bool o]) 2).run Tryz.prog W = .ok (.bool o) W := by kernel_rfl
theorem sginfo : (Tryz.prog.info? 90).map (·.size) = some 18 := by kernel_rfl
/-- A load of a whole row, by itself. -/
theorem exec_load_row {P : Program} {o : Oper} {ev : Operand → Value} {w : World} (ty : TypeId) (x : Operand) (ho : o.op = .load ty x) (g : Nat) (hx : ev x = .pointer (some ⟨g, 0, none⟩)) (t : TypeId) (cs : Array Value) (fr : Nat × Nat) (d : TypeDesc) (hg : w.heap[g]? = some (.cells cs t fr))
    (hu : P.underlying ty = some d) (hd : (match d with | .struct _ | .array _ _ => true | _ => false) = true) (hi : (P.info? ty).map (·.size) = some cs.size) : Sem.run P (execOp ev o) w = .ok (.value (.agg cs)) w := by
  unfold execOp
  simp only [ho, hx, Instr.loadAt, Instr.sureAddr, Sem.run_bind, Sem.run_pure, Result.andThen_ok, run_loadVar_row w g t ty cs fr d hg hu hd hi]
/-- A guarded load of a whole row. -/
theorem wpList_load_rowS {ops : Array Oper} {rest : List Oper} {o : Oper} {a : Act} {w : World} {Q : Exit → Act → World → Prop} (hw : Region.wanted o (yielded ops a.tmps) = true) (ty : TypeId) (x : Operand) (ho : o.op = .load ty x)
    (g : Nat) (hx : a.eval x = .pointer (some ⟨g, 0, none⟩)) (t : TypeId) (cs : Array Value) (fr : Nat × Nat) (fs : Array Field) (hg : w.heap[g]? = some (.cells cs t fr))
    (hu : Tryz.prog.underlying ty = some (.struct fs)) (hi : (Tryz.prog.info? ty).map (·.size) = some cs.size)
    (h : wpList Tryz.prog ops Q rest (a.put o.dst (.agg cs)) w) : wpList Tryz.prog ops Q (o :: rest) a w :=
  Go.BigFrame.wpList_want hw fun _ hK => wp_load_row ty x ho g hx t cs fr (.struct fs) hg hu rfl hi (hK _ _ h)
/-- What a question about rules leaves. -/
structure SwQ (L : List RU) (l : LG) (v : Nat → Nat) (b n : Nat) (w0 w w' : World) : Prop where
  told : ∃ n', n' ≤ n ∧ Told L l v w0.heap.size b n' w'
  gr : Gr w0 w'
  kp : Kp (some b) w w'
theorem SgB.kp {w w' : World} {p : Nat} {r : S3} {u : Nat → S3} {a : Nat → Nat} {b g : Nat} (k : SgB w p r u a b) (h : Kp (some g) w w') (hne : g ≠ p) : SgB w' p r u a b := ⟨kp_obj h k.box (fun e => hne (Option.some.inj e))⟩
theorem RCell.kp {w w' : World} {p o g : Nat} {r : RU} (h : RCell w p o r) (k : Kp (some g) w w') (hne : g ≠ p) : RCell w' p o r :=
  ⟨k.cell h.1 (fun e => hne (Option.some.inj e).symm), k.cell h.2.1 (fun e => hne (Option.some.inj e).symm), k.cell h.2.2.1 (fun e => hne (Option.some.inj e).symm), k.cell h.2.2.2.1 (fun e => hne (Option.some.inj e).symm), k.cell h.2.2.2.2 (fun e => hne (Option.some.inj e).symm)⟩
set_option maxRecDepth 100000 in
set_option maxHeartbeats 8000000 in
theorem sholds2_any (L : List RU) (l : LG) (r : S3) (u : Nat → S3) (v : Nat → Nat) (b n : Nat) (q : RU) (w0 w : World) (hu : UV w0 (.slice r.a r.n r.c) L) (hl : LV w0 u l) (hq : FitQ l) (hz : checkE l = 0) (hc : closedB l v = true)
    (hst : ∀ x ∈ L, wrap64 x.start = x.start) (g0 : Gr w0 w) (hb : w0.heap.size ≤ b) (ht : Told L l v w0.heap.size b n w) (hn : n + 2 < maxLen) (hks : q.key.size ≤ maxLen ∧ q.other.size ≤ maxLen) (hkk : q.k = 2) :
    Calls Tryz.prog 51 #[.agg (sgc r u v b), .agg (ruv q)] w fun e w' => e = .returned (.bool (holdB L l v q)) ∧ SwQ L l v b (n + 2) w0 w w' := by
  have hbw := ht.lt
  have hok := okL_iff.1 hz
  have hcl := (closedB_iff.1 hc).1
  have HSV := Lib.hid (fun key (hk : key.size ≤ maxLen) n w1 (g : Gr w0 w1) (h : Told L l v w0.heap.size b n w1) (h2 : n < maxLen) => sval_any L l r u v b n key w0 w1 hu hl hq hz hc hst g hb h h2 hk)
  have HON := Lib.hid (fun w1 (g : Gr w0 w1) => once_any r u l v b q.key w1 (hl.gr g) hok hcl)
  have HAM := Lib.hid (fun v1 v2 k1 k2 w1 (h1 : SV w1 v1 (valK L l v k1).e) (h2 : SV w1 v2 (valK L l v k2).e) => ramong_any v1 v2 _ _ w1 h1 h2 (valK_rising L l v k2) (Nat.lt_of_le_of_lt (valK_len hok hcl) (by decide)))
  obtain ⟨W1, hW1, hg1, hb1, hsz1⟩ := sgbox w r u v b
  obtain ⟨W, hW, hgW, hqb⟩ := rubox W1 q
  rw [hsz1] at hqb
  have HB := Lib.hid (hb1.gr hgW)
  have HQB := Lib.hid hqb
  have HG := Lib.hid (hg1.trans hgW)
  have HT := Lib.hid (ht.gr HG.out)
  have HG0 := Lib.hid (g0.trans HG.out)
  have HN := Lib.hid hn
  have HKS := Lib.hid hks
  have HBW := Lib.hid hbw
  obtain ⟨rn, ru, rc⟩ := r
  obtain ⟨qk, qkey, qoth, qmin, qst⟩ := q
  simp only at HON HKS hkk
  rw [hW1] at hW
  clear hb1 hg1 hgW hqb hsz1 hW1 hu hl hq hz hc hst g0 hb ht hn hks hbw hok hcl
  obtain ⟨q0, q1, q2, q3, q4⟩ := HQB.out
  subst hkk
  obtain ⟨z, hzz⟩ : ∃ z, z = holdB L l v ⟨2, qkey, qoth, qmin, qst⟩ := ⟨_, rfl⟩
  have HZ : Hid (z = decide (qmin ≤ (valK L l v qkey).n)) := Lib.hid (by rw [hzz]; rfl)
  rw [← hzz]
  clear hzz
  go_enter Tryz.func51, Tryz.ntmps51
  go_upto_region 1 with (fail)
  change Code.wp Tryz.prog _ _ _ ((w.alloc (.cells (sgc ⟨rn, ru, rc⟩ u v b) 90)).alloc (.cells (ruv ⟨2, qkey, qoth, qmin, qst⟩) 49))
  rw [← hW]
  clear hW
  go_upto_region 3 with (fail)
  clear q0 q1 q2 q3 q4
  refine wp_region_held_drew (S := fun w' => SgB w' w.heap.size ⟨rn, ru, rc⟩ u v b ∧ RCell w' (w.heap.size + 1) 0 ⟨2, qkey, qoth, qmin, qst⟩) (by kernel_rfl) ⟨HB.out.gr (Gr.refl _).drew, HQB.out.gr (Gr.refl _).drew⟩ (fun hHeld => ?_)
  refine hTake (i := 1) rfl (by kernel_rfl) (by kernel_rfl) (by kernel_rfl) (by kernel_rfl) (by assumption) ?_
  apply Exists.intro
  refine ⟨fun _ _ _ h => h, fun wq hq => ?_, ?_⟩
  · go_light
    obtain ⟨-, ⟨q0, q1, q2, q3, q4⟩⟩ := hq
    go_simp
    try with_reducible rfl
    done
  try simp only [Act.put, List.setIfInBounds_toArray, List.set_cons_zero, List.set_cons_succ]
  refine hTake (i := 2) rfl (by kernel_rfl) (by kernel_rfl) (by kernel_rfl) (by kernel_rfl) (by assumption) ?_
  apply Exists.intro
  refine ⟨fun _ _ _ h => h, fun wq hq => ?_, ?_⟩
  · go_light
    obtain ⟨-, ⟨q0, q1, q2, q3, q4⟩⟩ := hq
    go_simp
    try with_reducible rfl
    done
  try simp only [Act.put, List.setIfInBounds_toArray, List.set_cons_zero, List.set_cons_succ]
  refine hTake (i := 5) rfl (by kernel_rfl) (by kernel_rfl) (by kernel_rfl) (by kernel_rfl) (by assumption) ?_
  apply Exists.intro
  refine ⟨fun _ _ _ h => h, fun wq hq => ?_, ?_⟩
  · go_light
    obtain ⟨-, ⟨q0, q1, q2, q3, q4⟩⟩ := hq
    go_simp
    try with_reducible rfl
    done
  try simp only [Act.put, List.setIfInBounds_toArray, List.set_cons_zero, List.set_cons_succ]
  refine hTake (i := 6) rfl (by kernel_rfl) (by kernel_rfl) (by kernel_rfl) (by kernel_rfl) (by assumption) ?_
  apply Exists.intro
  refine ⟨fun _ _ _ h => h, fun wq hq => ?_, ?_⟩
  · go_light
    obtain ⟨-, ⟨q0, q1, q2, q3, q4⟩⟩ := hq
    go_simp
    try with_reducible rfl
    done
  try simp only [Act.put, List.setIfInBounds_toArray, List.set_cons_zero, List.set_cons_succ]
  refine hTake (i := 0) rfl (by kernel_rfl) (by kernel_rfl) (by kernel_rfl) (by kernel_rfl) (by assumption) ?_
  apply Exists.intro
  refine ⟨fun _ _ _ h => h, fun wq hq => ?_, ?_⟩
  · exact exec_load_row 90 (.tmp 2) rfl w.heap.size rfl 90 (sgc ⟨rn, ru, rc⟩ u v b) (0, 0) _ hq.1.box Tryz.underlying90 rfl sginfo
  try simp only [Act.put, List.setIfInBounds_toArray, List.set_cons_zero, List.set_cons_succ]
  refine wpAnyH_ready (rs := [3]) (by kernel_rfl) (by simp) ?_
  refine AllReadyH.cons rfl (fun K hK => ?_) AllReadyH.nil
  go_simp
  go_at_call 97
  refine (HSV.out qkey HKS.out.1 n _ HG0.out.drew (HT.out.gr (Gr.refl _).drew) (by have := HN.out; omega)).mono ?_
  rintro e w3 ⟨x, rfl, hx⟩
  have HX := Lib.hid hx
  have HKP : Hid (Kp (some b) W w3) := Lib.hid ((Kp.of_gr (Gr.refl _).drew).trans hx.kp)
  have HS3 : Hid (SgB w3 w.heap.size ⟨rn, ru, rc⟩ u v b ∧ RCell w3 (w.heap.size + 1) 0 ⟨2, qkey, qoth, qmin, qst⟩) := Lib.hid ⟨HB.out.kp HKP.out (by have := HBW.out; omega), HQB.out.kp HKP.out (by have := HBW.out; omega)⟩
  obtain ⟨ve, rfl, hso⟩ := hx.val
  obtain ⟨A, c, rfl, -, -⟩ := own_form hso
  obtain ⟨m, hm⟩ : ∃ m, m = (valK L l v qkey).e.length := ⟨_, rfl⟩
  obtain ⟨vn, hvn⟩ : ∃ m, m = (valK L l v qkey).n := ⟨_, rfl⟩
  obtain ⟨von, hvon⟩ : ∃ m, m = (valK L l v qkey).on := ⟨_, rfl⟩
  have HFIN : Hid (SwQ L l v b (n + 2) w0 w w3) := Lib.hid ⟨by obtain ⟨n', h1, h2⟩ := hx.told; exact ⟨n', by omega, h2⟩, hx.gr, (Kp.of_gr HG.out).trans HKP.out⟩
  rw [← hm, ← hvn, ← hvon]
  rw [← hvn] at HZ
  have hf0 := fun W => vfld0 vn A m c von W
  have hd : decide (qmin ≤ vn) = z := HZ.out.symm
  have hd2 : decide (vn ≥ qmin) = z := HZ.out.symm
  clear hx hso hm hvn hvon HX hHeld
  go_wp2_with fail
  refine hK.out _ _ HS3.out (fun hHeld => ?_)
  clear hK K
  try simp only [Act.put, List.setIfInBounds_toArray, List.set_cons_zero, List.set_cons_succ]
  refine hTake (i := 4) rfl (by kernel_rfl) (by kernel_rfl) (by kernel_rfl) (by kernel_rfl) (by assumption) ?_
  apply Exists.intro
  refine ⟨fun _ _ _ h => h, fun wq hq => ?_, ?_⟩
  · go_light
    obtain ⟨-, ⟨q0, q1, q2, q3, q4⟩⟩ := hq
    go_simp
    try with_reducible rfl
    done
  try simp only [Act.put, List.setIfInBounds_toArray, List.set_cons_zero, List.set_cons_succ]
  refine hTake (i := 7) rfl (by kernel_rfl) (by kernel_rfl) (by kernel_rfl) (by kernel_rfl) (by assumption) ?_
  apply Exists.intro
  refine ⟨fun _ _ _ h => h, fun wq hq => ?_, ?_⟩
  · go_light
    obtain ⟨-, ⟨q0, q1, q2, q3, q4⟩⟩ := hq
    go_simp
    try with_reducible rfl
    done
  try simp only [Act.put, List.setIfInBounds_toArray, List.set_cons_zero, List.set_cons_succ]
  refine wpAnyH_ready (rs := [8]) (by kernel_rfl) (by simp) ?_
  refine AllReadyH.cons rfl (fun K hK => ?_) AllReadyH.nil
  go_simp
  refine hK.out _ _ HS3.out (fun _ => ?_)
  clear hK K
  try simp only [Act.put, List.setIfInBounds_toArray, List.set_cons_zero, List.set_cons_succ]
  refine wpAnyH_done (by kernel_rfl) ?_ _
  go_wp2_with fail
  go_ret
  exact ⟨rfl, HFIN.out⟩
set_option maxRecDepth 100000 in
set_option maxHeartbeats 8000000 in
theorem sholds8_any (L : List RU) (l : LG) (r : S3) (u : Nat → S3) (v : Nat → Nat) (b n : Nat) (q : RU) (w0 w : World) (hu : UV w0 (.slice r.a r.n r.c) L) (hl : LV w0 u l) (hq : FitQ l) (hz : checkE l = 0) (hc : closedB l v = true)
    (hst : ∀ x ∈ L, wrap64 x.start = x.start) (g0 : Gr w0 w) (hb : w0.heap.size ≤ b) (ht : Told L l v w0.heap.size b n w) (hn : n + 2 < maxLen) (hks : q.key.size ≤ maxLen ∧ q.other.size ≤ maxLen) (hkk : q.k = 8) :
    Calls Tryz.prog 51 #[.agg (sgc r u v b), .agg (ruv q)] w fun e w' => e = .returned (.bool (holdB L l v q)) ∧ SwQ L l v b (n + 2) w0 w w' := by
  have hbw := ht.lt
  have hok := okL_iff.1 hz
  have hcl := (closedB_iff.1 hc).1
  have HSV := Lib.hid (fun key (hk : key.size ≤ maxLen) n w1 (g : Gr w0 w1) (h : Told L l v w0.heap.size b n w1) (h2 : n < maxLen) => sval_any L l r u v b n key w0 w1 hu hl hq hz hc hst g hb h h2 hk)
  have HON := Lib.hid (fun w1 (g : Gr w0 w1) => once_any r u l v b q.key w1 (hl.gr g) hok hcl)
  have HAM := Lib.hid (fun v1 v2 k1 k2 w1 (h1 : SV w1 v1 (valK L l v k1).e) (h2 : SV w1 v2 (valK L l v k2).e) => ramong_any v1 v2 _ _ w1 h1 h2 (valK_rising L l v k2) (Nat.lt_of_le_of_lt (valK_len hok hcl) (by decide)))
  obtain ⟨W1, hW1, hg1, hb1, hsz1⟩ := sgbox w r u v b
  obtain ⟨W, hW, hgW, hqb⟩ := rubox W1 q
  rw [hsz1] at hqb
  have HB := Lib.hid (hb1.gr hgW)
  have HQB := Lib.hid hqb
  have HG := Lib.hid (hg1.trans hgW)
  have HT := Lib.hid (ht.gr HG.out)
  have HG0 := Lib.hid (g0.trans HG.out)
  have HN := Lib.hid hn
  have HKS := Lib.hid hks
  have HBW := Lib.hid hbw
  obtain ⟨rn, ru, rc⟩ := r
  obtain ⟨qk, qkey, qoth, qmin, qst⟩ := q
  simp only at HON HKS hkk
  rw [hW1] at hW
  clear hb1 hg1 hgW hqb hsz1 hW1 hu hl hq hz hc hst g0 hb ht hn hks hbw hok hcl
  obtain ⟨q0, q1, q2, q3, q4⟩ := HQB.out
  subst hkk
  obtain ⟨z, hzz⟩ : ∃ z, z = holdB L l v ⟨8, qkey, qoth, qmin, qst⟩ := ⟨_, rfl⟩
  have HZ : Hid (onceB qkey l v = z) := Lib.hid (by rw [hzz]; rfl)
  rw [← hzz]
  rw [HZ.out] at HON
  clear hzz
  go_enter Tryz.func51, Tryz.ntmps51
  go_upto_region 1 with (fail)
  change Code.wp Tryz.prog _ _ _ ((w.alloc (.cells (sgc ⟨rn, ru, rc⟩ u v b) 90)).alloc (.cells (ruv ⟨8, qkey, qoth, qmin, qst⟩) 49))
  rw [← hW]
  clear hW
  go_upto_region 5 with (fail)
  have hbx := HB.out.box
  go_wp2_with (refine wpList_load_row rfl 90 (.tmp 2) rfl w.heap.size rfl 90 (sgc ⟨rn, ru, rc⟩ u v b) (0, 0) _ hbx Tryz.underlying90 rfl sginfo ?_)
  refine (HON.out _ HG0.out).mono ?_
  rintro e w3 ⟨rfl, g3⟩
  have HFIN : Hid (SwQ L l v b (n + 2) w0 w w3) := Lib.hid ⟨⟨n, by omega, HT.out.gr g3⟩, HG0.out.trans g3, Kp.of_gr (HG.out.trans g3)⟩
  clear g3 hbx
  go_wp2_with fail
  go_ret
  exact ⟨rfl, HFIN.out⟩
set_option maxRecDepth 100000 in
set_option maxHeartbeats 8000000 in
theorem sholds9_any (L : List RU) (l : LG) (r : S3) (u : Nat → S3) (v : Nat → Nat) (b n : Nat) (q : RU) (w0 w : World) (hu : UV w0 (.slice r.a r.n r.c) L) (hl : LV w0 u l) (hq : FitQ l) (hz : checkE l = 0) (hc : closedB l v = true)
    (hst : ∀ x ∈ L, wrap64 x.start = x.start) (g0 : Gr w0 w) (hb : w0.heap.size ≤ b) (ht : Told L l v w0.heap.size b n w) (hn : n + 2 < maxLen) (hks : q.key.size ≤ maxLen ∧ q.other.size ≤ maxLen) (hkk : q.k = 9) :
    Calls Tryz.prog 51 #[.agg (sgc r u v b), .agg (ruv q)] w fun e w' => e = .returned (.bool (holdB L l v q)) ∧ SwQ L l v b (n + 2) w0 w w' := by
  have hbw := ht.lt
  have hok := okL_iff.1 hz
  have hcl := (closedB_iff.1 hc).1
  have HSV := Lib.hid (fun key (hk : key.size ≤ maxLen) n w1 (g : Gr w0 w1) (h : Told L l v w0.heap.size b n w1) (h2 : n < maxLen) => sval_any L l r u v b n key w0 w1 hu hl hq hz hc hst g hb h h2 hk)
  have HON := Lib.hid (fun w1 (g : Gr w0 w1) => once_any r u l v b q.key w1 (hl.gr g) hok hcl)
  have HAM := Lib.hid (fun v1 v2 k1 k2 w1 (h1 : SV w1 v1 (valK L l v k1).e) (h2 : SV w1 v2 (valK L l v k2).e) => ramong_any v1 v2 _ _ w1 h1 h2 (valK_rising L l v k2) (Nat.lt_of_le_of_lt (valK_len hok hcl) (by decide)))
  obtain ⟨W1, hW1, hg1, hb1, hsz1⟩ := sgbox w r u v b
  obtain ⟨W, hW, hgW, hqb⟩ := rubox W1 q
  rw [hsz1] at hqb
  have HB := Lib.hid (hb1.gr hgW)
  have HQB := Lib.hid hqb
  have HG := Lib.hid (hg1.trans hgW)
  have HT := Lib.hid (ht.gr HG.out)
  have HG0 := Lib.hid (g0.trans HG.out)
  have HN := Lib.hid hn
  have HKS := Lib.hid hks
  have HBW := Lib.hid hbw
  obtain ⟨rn, ru, rc⟩ := r
  obtain ⟨qk, qkey, qoth, qmin, qst⟩ := q
  simp only at HON HKS hkk
  rw [hW1] at hW
  clear hb1 hg1 hgW hqb hsz1 hW1 hu hl hq hz hc hst g0 hb ht hn hks hbw hok hcl
  obtain ⟨q0, q1, q2, q3, q4⟩ := HQB.out
  subst hkk
  obtain ⟨z, hzz⟩ : ∃ z, z = holdB L l v ⟨9, qkey, qoth, qmin, qst⟩ := ⟨_, rfl⟩
  have HZ : Hid (((valK L l v qkey).e.all fun x => memS (valK L l v qoth).e x) = z) := Lib.hid (by rw [hzz]; rfl)
  rw [← hzz]
  clear hzz
  go_enter Tryz.func51, Tryz.ntmps51
  go_upto_region 1 with (fail)
  change Code.wp Tryz.prog _ _ _ ((w.alloc (.cells (sgc ⟨rn, ru, rc⟩ u v b) 90)).alloc (.cells (ruv ⟨9, qkey, qoth, qmin, qst⟩) 49))
  rw [← hW]
  clear hW
  go_upto_region 7 with (fail)
  clear q0 q1 q2 q3 q4
  refine wp_region_held_drew (S := fun w' => SgB w' w.heap.size ⟨rn, ru, rc⟩ u v b ∧ RCell w' (w.heap.size + 1) 0 ⟨9, qkey, qoth, qmin, qst⟩) (by kernel_rfl) ⟨HB.out.gr (Gr.refl _).drew, HQB.out.gr (Gr.refl _).drew⟩ (fun hHeld => ?_)
  refine hTake (i := 1) rfl (by kernel_rfl) (by kernel_rfl) (by kernel_rfl) (by kernel_rfl) (by assumption) ?_
  apply Exists.intro
  refine ⟨fun _ _ _ h => h, fun wq hq => ?_, ?_⟩
  · go_light
    obtain ⟨-, ⟨q0, q1, q2, q3, q4⟩⟩ := hq
    go_simp
    try with_reducible rfl
    done
  try simp only [Act.put, List.setIfInBounds_toArray, List.set_cons_zero, List.set_cons_succ]
  refine hTake (i := 2) rfl (by kernel_rfl) (by kernel_rfl) (by kernel_rfl) (by kernel_rfl) (by assumption) ?_
  apply Exists.intro
  refine ⟨fun _ _ _ h => h, fun wq hq => ?_, ?_⟩
  · go_light
    obtain ⟨-, ⟨q0, q1, q2, q3, q4⟩⟩ := hq
    go_simp
    try with_reducible rfl
    done
  try simp only [Act.put, List.setIfInBounds_toArray, List.set_cons_zero, List.set_cons_succ]
  refine hTake (i := 6) rfl (by kernel_rfl) (by kernel_rfl) (by kernel_rfl) (by kernel_rfl) (by assumption) ?_
  apply Exists.intro
  refine ⟨fun _ _ _ h => h, fun wq hq => ?_, ?_⟩
  · go_light
    obtain ⟨-, ⟨q0, q1, q2, q3, q4⟩⟩ := hq
    go_simp
    try with_reducible rfl
    done
  try simp only [Act.put, List.setIfInBounds_toArray, List.set_cons_zero, List.set_cons_succ]
  refine hTake (i := 7) rfl (by kernel_rfl) (by kernel_rfl) (by kernel_rfl) (by kernel_rfl) (by assumption) ?_
  apply Exists.intro
  refine ⟨fun _ _ _ h => h, fun wq hq => ?_, ?_⟩
  · go_light
    obtain ⟨-, ⟨q0, q1, q2, q3, q4⟩⟩ := hq
    go_simp
    try with_reducible rfl
    done
  try simp only [Act.put, List.setIfInBounds_toArray, List.set_cons_zero, List.set_cons_succ]
  refine hTake (i := 0) rfl (by kernel_rfl) (by kernel_rfl) (by kernel_rfl) (by kernel_rfl) (by assumption) ?_
  apply Exists.intro
  refine ⟨fun _ _ _ h => h, fun wq hq => ?_, ?_⟩
  · exact exec_load_row 90 (.tmp 2) rfl w.heap.size rfl 90 (sgc ⟨rn, ru, rc⟩ u v b) (0, 0) _ hq.1.box Tryz.underlying90 rfl sginfo
  try simp only [Act.put, List.setIfInBounds_toArray, List.set_cons_zero, List.set_cons_succ]
  refine hTake (i := 5) rfl (by kernel_rfl) (by kernel_rfl) (by kernel_rfl) (by kernel_rfl) (by assumption) ?_
  apply Exists.intro
  refine ⟨fun _ _ _ h => h, fun wq hq => ?_, ?_⟩
  · exact exec_load_row 90 (.tmp 2) rfl w.heap.size rfl 90 (sgc ⟨rn, ru, rc⟩ u v b) (0, 0) _ hq.1.box Tryz.underlying90 rfl sginfo
  try simp only [Act.put, List.setIfInBounds_toArray, List.set_cons_zero, List.set_cons_succ]
  refine wpAnyH_ready (rs := [3]) (by kernel_rfl) (by simp) ?_
  refine AllReadyH.cons rfl (fun K hK => ?_) AllReadyH.nil
  go_simp
  go_at_call 97
  refine (HSV.out qkey HKS.out.1 n _ HG0.out.drew (HT.out.gr (Gr.refl _).drew) (by have := HN.out; omega)).mono ?_
  rintro e w3 ⟨x, rfl, hx⟩
  have HX := Lib.hid hx
  have HKP : Hid (Kp (some b) W w3) := Lib.hid ((Kp.of_gr (Gr.refl _).drew).trans hx.kp)
  have HS3 : Hid (SgB w3 w.heap.size ⟨rn, ru, rc⟩ u v b ∧ RCell w3 (w.heap.size + 1) 0 ⟨9, qkey, qoth, qmin, qst⟩) := Lib.hid ⟨HB.out.kp HKP.out (by have := HBW.out; omega), HQB.out.kp HKP.out (by have := HBW.out; omega)⟩
  have hval := hx.val
  obtain ⟨ve, rfl, hso⟩ := hval
  obtain ⟨A, c, rfl, -, -⟩ := own_form hso
  obtain ⟨m, hm⟩ : ∃ m, m = (valK L l v qkey).e.length := ⟨_, rfl⟩
  obtain ⟨vn, hvn⟩ : ∃ m, m = (valK L l v qkey).n := ⟨_, rfl⟩
  obtain ⟨von, hvon⟩ : ∃ m, m = (valK L l v qkey).on := ⟨_, rfl⟩
  rw [← hm] at hso
  have HV1 : Hid (RV3 w3 w0.heap.size (.agg #[.int .i64 vn, .slice A m c, .bool von]) (valK L l v qkey)) := Lib.hid (by rw [hm, hvn, hvon]; exact hx.val)
  rw [← hm, ← hvn, ← hvon]
  have hf1 := fun W => vfld1 vn A m c von W
  clear hx hso hm hvn hvon hHeld
  go_wp2_with fail
  refine hK.out _ _ HS3.out (fun hHeld => ?_)
  clear hK K
  try simp only [Act.put, List.setIfInBounds_toArray, List.set_cons_zero, List.set_cons_succ]
  refine hTake (i := 4) rfl (by kernel_rfl) (by kernel_rfl) (by kernel_rfl) (by kernel_rfl) (by assumption) ?_
  apply Exists.intro
  refine ⟨fun _ _ _ h => h, fun wq hq => ?_, ?_⟩
  · go_light
    obtain ⟨-, ⟨q0, q1, q2, q3, q4⟩⟩ := hq
    go_simp
    try with_reducible rfl
    done
  try simp only [Act.put, List.setIfInBounds_toArray, List.set_cons_zero, List.set_cons_succ]
  refine wpAnyH_ready (rs := [8]) (by kernel_rfl) (by simp) ?_
  refine AllReadyH.cons rfl (fun K hK => ?_) AllReadyH.nil
  go_simp
  go_at_call 97
  obtain ⟨n3, hn3, ht3⟩ := HX.out.told
  refine (HSV.out qoth HKS.out.2 n3 _ HX.out.gr ht3 (by have := HN.out; omega)).mono ?_
  rintro e w4 ⟨x, rfl, hx⟩
  have HKP4 : Hid (Kp (some b) W w4) := Lib.hid (HKP.out.trans hx.kp)
  have HS4 : Hid (SgB w4 w.heap.size ⟨rn, ru, rc⟩ u v b ∧ RCell w4 (w.heap.size + 1) 0 ⟨9, qkey, qoth, qmin, qst⟩) := Lib.hid ⟨HB.out.kp HKP4.out (by have := HBW.out; omega), HQB.out.kp HKP4.out (by have := HBW.out; omega)⟩
  have HV2 : Hid (RV3 w4 w0.heap.size (.agg #[.int .i64 vn, .slice A m c, .bool von]) (valK L l v qkey)) := Lib.hid (HV1.out.kpT ht3 hx.kp)
  have hval := hx.val
  obtain ⟨ve, rfl, hso⟩ := hval
  obtain ⟨A2, c2, rfl, -, -⟩ := own_form hso
  obtain ⟨m2, hm2⟩ : ∃ m, m = (valK L l v qoth).e.length := ⟨_, rfl⟩
  obtain ⟨vn2, hvn2⟩ : ∃ m, m = (valK L l v qoth).n := ⟨_, rfl⟩
  obtain ⟨von2, hvon2⟩ : ∃ m, m = (valK L l v qoth).on := ⟨_, rfl⟩
  rw [← hm2] at hso
  have HSO2 := Lib.hid hso
  have HFIN : Hid (SwQ L l v b (n + 2) w0 w w4) := Lib.hid ⟨by obtain ⟨n', h1, h2⟩ := hx.told; exact ⟨n', by omega, h2⟩, hx.gr, (Kp.of_gr HG.out).trans HKP4.out⟩
  rw [← hm2, ← hvn2, ← hvon2]
  have hf2 := fun W => vfld1 vn2 A2 m2 c2 von2 W
  clear hx hso hm2 hvn2 hvon2 hHeld ht3 hn3
  go_wp2_with fail
  refine hK.out _ _ HS4.out (fun hHeld => ?_)
  clear hK K
  try simp only [Act.put, List.setIfInBounds_toArray, List.set_cons_zero, List.set_cons_succ]
  refine hTake (i := 9) rfl (by kernel_rfl) (by kernel_rfl) (by kernel_rfl) (by kernel_rfl) (by assumption) ?_
  apply Exists.intro
  refine ⟨fun _ _ _ h => h, fun wq hq => ?_, ?_⟩
  · go_light
    obtain ⟨-, ⟨q0, q1, q2, q3, q4⟩⟩ := hq
    go_simp
    try with_reducible rfl
    done
  try simp only [Act.put, List.setIfInBounds_toArray, List.set_cons_zero, List.set_cons_succ]
  refine wpAnyH_ready (rs := [10]) (by kernel_rfl) (by simp) ?_
  refine AllReadyH.cons rfl (fun K hK => ?_) AllReadyH.nil
  go_simp
  go_at_call 99
  obtain ⟨ve1, he1, hso1⟩ := HV2.out
  have he1' : ve1 = .slice A m c := by injection he1 with he1; injection he1 with he1; injection he1 with _ he1; injection he1 with he1; exact he1.symm
  subst he1'
  refine (HAM.out _ _ qkey qoth _ hso1.sv HSO2.out.sv).mono ?_
  rintro e w5 ⟨rfl, g5⟩
  have HS5 : Hid (SgB w5 w.heap.size ⟨rn, ru, rc⟩ u v b ∧ RCell w5 (w.heap.size + 1) 0 ⟨9, qkey, qoth, qmin, qst⟩) := Lib.hid ⟨(HB.out.kp HKP4.out (by have := HBW.out; omega)).gr g5, (HQB.out.kp HKP4.out (by have := HBW.out; omega)).gr g5⟩
  have HFIN5 : Hid (SwQ L l v b (n + 2) w0 w w5) := Lib.hid ⟨by obtain ⟨n', h1, h2⟩ := HFIN.out.told; exact ⟨n', h1, h2.gr g5⟩, HFIN.out.gr.trans g5, HFIN.out.kp.trans (Kp.of_gr g5)⟩
  rw [HZ.out]
  clear g5 hHeld hso1 he1
  go_wp2_with fail
  refine hK.out _ _ HS5.out (fun hHeld => ?_)
  clear hK K
  try simp only [Act.put, List.setIfInBounds_toArray, List.set_cons_zero, List.set_cons_succ]
  refine wpAnyH_ready (rs := [11]) (by kernel_rfl) (by simp) ?_
  refine AllReadyH.cons rfl (fun K hK => ?_) AllReadyH.nil
  go_simp
  refine hK.out _ _ HS5.out (fun _ => ?_)
  clear hK K
  try simp only [Act.put, List.setIfInBounds_toArray, List.set_cons_zero, List.set_cons_succ]
  refine wpAnyH_done (by kernel_rfl) ?_ _
  go_wp2_with fail
  go_ret
  exact ⟨rfl, HFIN5.out⟩
set_option maxRecDepth 100000 in
set_option maxHeartbeats 8000000 in
theorem sholds10_any (L : List RU) (l : LG) (r : S3) (u : Nat → S3) (v : Nat → Nat) (b n : Nat) (q : RU) (w0 w : World) (hu : UV w0 (.slice r.a r.n r.c) L) (hl : LV w0 u l) (hq : FitQ l) (hz : checkE l = 0) (hc : closedB l v = true)
    (hst : ∀ x ∈ L, wrap64 x.start = x.start) (g0 : Gr w0 w) (hb : w0.heap.size ≤ b) (ht : Told L l v w0.heap.size b n w) (hn : n + 2 < maxLen) (hks : q.key.size ≤ maxLen ∧ q.other.size ≤ maxLen) (hkk : q.k = 10) :
    Calls Tryz.prog 51 #[.agg (sgc r u v b), .agg (ruv q)] w fun e w' => e = .returned (.bool (holdB L l v q)) ∧ SwQ L l v b (n + 2) w0 w w' := by
  have hbw := ht.lt
  have hok := okL_iff.1 hz
  have hcl := (closedB_iff.1 hc).1
  have HSV := Lib.hid (fun key (hk : key.size ≤ maxLen) n w1 (g : Gr w0 w1) (h : Told L l v w0.heap.size b n w1) (h2 : n < maxLen) => sval_any L l r u v b n key w0 w1 hu hl hq hz hc hst g hb h h2 hk)
  have HON := Lib.hid (fun w1 (g : Gr w0 w1) => once_any r u l v b q.key w1 (hl.gr g) hok hcl)
  have HAM := Lib.hid (fun v1 v2 k1 k2 w1 (h1 : SV w1 v1 (valK L l v k1).e) (h2 : SV w1 v2 (valK L l v k2).e) => ramong_any v1 v2 _ _ w1 h1 h2 (valK_rising L l v k2) (Nat.lt_of_le_of_lt (valK_len hok hcl) (by decide)))
  obtain ⟨W1, hW1, hg1, hb1, hsz1⟩ := sgbox w r u v b
  obtain ⟨W, hW, hgW, hqb⟩ := rubox W1 q
  rw [hsz1] at hqb
  have HB := Lib.hid (hb1.gr hgW)
  have HQB := Lib.hid hqb
  have HG := Lib.hid (hg1.trans hgW)
  have HT := Lib.hid (ht.gr HG.out)
  have HG0 := Lib.hid (g0.trans HG.out)
  have HN := Lib.hid hn
  have HKS := Lib.hid hks
  have HBW := Lib.hid hbw
  obtain ⟨rn, ru, rc⟩ := r
  obtain ⟨qk, qkey, qoth, qmin, qst⟩ := q
  simp only at HON HKS hkk
  rw [hW1] at hW
  clear hb1 hg1 hgW hqb hsz1 hW1 hu hl hq hz hc hst g0 hb ht hn hks hbw hok hcl
  obtain ⟨q0, q1, q2, q3, q4⟩ := HQB.out
  subst hkk
  have HZ : Hid (holdB L l v ⟨10, qkey, qoth, qmin, qst⟩ = ((valK L l v qkey).on || (valK L l v qoth).on)) := Lib.hid rfl
  rw [HZ.out]
  go_enter Tryz.func51, Tryz.ntmps51
  go_upto_region 1 with (fail)
  change Code.wp Tryz.prog _ _ _ ((w.alloc (.cells (sgc ⟨rn, ru, rc⟩ u v b) 90)).alloc (.cells (ruv ⟨10, qkey, qoth, qmin, qst⟩) 49))
  rw [← hW]
  clear hW
  go_upto_region 9 with (fail)
  have hbx := HB.out.box
  go_wp2_with (refine wpList_load_row rfl 90 (.tmp 2) rfl w.heap.size rfl 90 (sgc ⟨rn, ru, rc⟩ u v b) (0, 0) _ hbx Tryz.underlying90 rfl sginfo ?_)
  refine (HSV.out qkey HKS.out.1 n _ HG0.out HT.out (by have := HN.out; omega)).mono ?_
  rintro e w3 ⟨x, rfl, hx⟩
  have HX := Lib.hid hx
  have HKP : Hid (Kp (some b) W w3) := Lib.hid hx.kp
  have hval := hx.val
  obtain ⟨ve, rfl, hso⟩ := hval
  obtain ⟨A, c, rfl, -, -⟩ := own_form hso
  obtain ⟨m, hm⟩ : ∃ m, m = (valK L l v qkey).e.length := ⟨_, rfl⟩
  obtain ⟨vn, hvn⟩ : ∃ m, m = (valK L l v qkey).n := ⟨_, rfl⟩
  obtain ⟨von, hvon⟩ : ∃ m, m = (valK L l v qkey).on := ⟨_, rfl⟩
  rw [← hm, ← hvn, ← hvon]
  have HV1 := Lib.hid hvon
  have hf1 := fun W => vfld2 vn A m c von W
  have HFIN : Hid (SwQ L l v b (n + 2) w0 w w3) := Lib.hid ⟨by obtain ⟨n', h1, h2⟩ := hx.told; exact ⟨n', by omega, h2⟩, hx.gr, (Kp.of_gr HG.out).trans HKP.out⟩
  clear hx hso hm hvn hvon hbx q0 q1 q2 q3 q4
  have hbx := (HB.out.kp HKP.out (by have := HBW.out; omega)).box
  obtain ⟨q0, q1, q2, q3, q4⟩ := HQB.out.kp HKP.out (show b ≠ w.heap.size + 1 by have := HBW.out; omega)
  rcases von with _ | _
  · go_wp2_with (refine wpList_load_rowS (by kernel_rfl) 90 (.tmp 2) rfl w.heap.size rfl 90 (sgc ⟨rn, ru, rc⟩ u v b) (0, 0) _ hbx Tryz.underlying90 sginfo ?_)
    obtain ⟨n3, hn3, ht3⟩ := HX.out.told
    refine (HSV.out qoth HKS.out.2 n3 _ HX.out.gr ht3 (by have := HN.out; omega)).mono ?_
    rintro e w4 ⟨x, rfl, hx⟩
    have HKP4 : Hid (Kp (some b) W w4) := Lib.hid (HKP.out.trans hx.kp)
    have hval := hx.val
    obtain ⟨ve, rfl, hso⟩ := hval
    obtain ⟨A2, c2', rfl, -, -⟩ := own_form hso
    obtain ⟨m2, hm2⟩ : ∃ m, m = (valK L l v qoth).e.length := ⟨_, rfl⟩
    obtain ⟨vn2, hvn2⟩ : ∃ m, m = (valK L l v qoth).n := ⟨_, rfl⟩
    obtain ⟨von2, hvon2⟩ : ∃ m, m = (valK L l v qoth).on := ⟨_, rfl⟩
    have HFIN4 : Hid (SwQ L l v b (n + 2) w0 w w4) := Lib.hid ⟨by obtain ⟨n', h1, h2⟩ := hx.told; exact ⟨n', by omega, h2⟩, hx.gr, (Kp.of_gr HG.out).trans HKP4.out⟩
    rw [← hm2, ← hvn2, ← hvon2]
    have HV2 := Lib.hid hvon2
    have hf2 := fun W => vfld2 vn2 A2 m2 c2' von2 W
    clear hx hso hm2 hvn2 hvon2 ht3 hn3 hbx q0 q1 q2 q3 q4
    go_wp2_with fail
    go_ret
    exact ⟨by rw [← HV1.out, ← HV2.out]; rfl, HFIN4.out⟩
  · go_wp2_with fail
    go_ret
    exact ⟨by rw [← HV1.out]; rfl, HFIN.out⟩
set_option maxRecDepth 100000 in
set_option maxHeartbeats 8000000 in
theorem sholds0_any (L : List RU) (l : LG) (r : S3) (u : Nat → S3) (v : Nat → Nat) (b n : Nat) (q : RU) (w0 w : World) (hu : UV w0 (.slice r.a r.n r.c) L) (hl : LV w0 u l) (hq : FitQ l) (hz : checkE l = 0) (hc : closedB l v = true)
    (hst : ∀ x ∈ L, wrap64 x.start = x.start) (g0 : Gr w0 w) (hb : w0.heap.size ≤ b) (ht : Told L l v w0.heap.size b n w) (hn : n + 2 < maxLen) (hks : q.key.size ≤ maxLen ∧ q.other.size ≤ maxLen) (hkk : ¬ q.k = 2 ∧ ¬ q.k = 8 ∧ ¬ q.k = 9 ∧ ¬ q.k = 10) :
    Calls Tryz.prog 51 #[.agg (sgc r u v b), .agg (ruv q)] w fun e w' => e = .returned (.bool (holdB L l v q)) ∧ SwQ L l v b (n + 2) w0 w w' := by
  have hbw := ht.lt
  have hok := okL_iff.1 hz
  have hcl := (closedB_iff.1 hc).1
  have HSV := Lib.hid (fun key (hk : key.size ≤ maxLen) n w1 (g : Gr w0 w1) (h : Told L l v w0.heap.size b n w1) (h2 : n < maxLen) => sval_any L l r u v b n key w0 w1 hu hl hq hz hc hst g hb h h2 hk)
  have HON := Lib.hid (fun w1 (g : Gr w0 w1) => once_any r u l v b q.key w1 (hl.gr g) hok hcl)
  have HAM := Lib.hid (fun v1 v2 k1 k2 w1 (h1 : SV w1 v1 (valK L l v k1).e) (h2 : SV w1 v2 (valK L l v k2).e) => ramong_any v1 v2 _ _ w1 h1 h2 (valK_rising L l v k2) (Nat.lt_of_le_of_lt (valK_len hok hcl) (by decide)))
  obtain ⟨W1, hW1, hg1, hb1, hsz1⟩ := sgbox w r u v b
  obtain ⟨W, hW, hgW, hqb⟩ := rubox W1 q
  rw [hsz1] at hqb
  have HB := Lib.hid (hb1.gr hgW)
  have HQB := Lib.hid hqb
  have HG := Lib.hid (hg1.trans hgW)
  have HT := Lib.hid (ht.gr HG.out)
  have HG0 := Lib.hid (g0.trans HG.out)
  have HN := Lib.hid hn
  have HKS := Lib.hid hks
  have HBW := Lib.hid hbw
  obtain ⟨rn, ru, rc⟩ := r
  obtain ⟨qk, qkey, qoth, qmin, qst⟩ := q
  simp only at HON HKS hkk
  rw [hW1] at hW
  clear hb1 hg1 hgW hqb hsz1 hW1 hu hl hq hz hc hst g0 hb ht hn hks hbw hok hcl
  obtain ⟨q0, q1, q2, q3, q4⟩ := HQB.out
  obtain ⟨k2, k8, k9, k10⟩ := hkk
  have HZ : Hid (holdB L l v ⟨qk, qkey, qoth, qmin, qst⟩ = true) := Lib.hid (by unfold holdB; simp only []; rw [if_neg k2, if_neg k8, if_neg k9, if_neg k10])
  rw [HZ.out]
  have e2 : (qk == 2) = false := by simpa using k2
  have e8 : (qk == 8) = false := by simpa using k8
  have e9 : (qk == 9) = false := by simpa using k9
  have e10 : (qk == 10) = false := by simpa using k10
  have HFIN : Hid (SwQ L l v b (n + 2) w0 w W) := Lib.hid ⟨⟨n, by omega, HT.out⟩, HG0.out, Kp.of_gr HG.out⟩
  go_enter Tryz.func51, Tryz.ntmps51
  go_upto_region 1 with (fail)
  change Code.wp Tryz.prog _ _ _ ((w.alloc (.cells (sgc ⟨rn, ru, rc⟩ u v b) 90)).alloc (.cells (ruv ⟨qk, qkey, qoth, qmin, qst⟩) 49))
  rw [← hW]
  clear hW
  go_wp2_with fail
  go_ret
  exact ⟨rfl, HFIN.out⟩
theorem sholds_any (L : List RU) (l : LG) (r : S3) (u : Nat → S3) (v : Nat → Nat) (b n : Nat) (q : RU) (w0 w : World) (hu : UV w0 (.slice r.a r.n r.c) L) (hl : LV w0 u l) (hq : FitQ l) (hz : checkE l = 0) (hc : closedB l v = true)
    (hst : ∀ x ∈ L, wrap64 x.start = x.start) (g0 : Gr w0 w) (hb : w0.heap.size ≤ b) (ht : Told L l v w0.heap.size b n w) (hn : n + 2 < maxLen) (hks : q.key.size ≤ maxLen ∧ q.other.size ≤ maxLen) :
    Calls Tryz.prog 51 #[.agg (sgc r u v b), .agg (ruv q)] w fun e w' => e = .returned (.bool (holdB L l v q)) ∧ SwQ L l v b (n + 2) w0 w w' := by
  by_cases k2 : q.k = 2
  · exact sholds2_any L l r u v b n q w0 w hu hl hq hz hc hst g0 hb ht hn hks k2
  by_cases k8 : q.k = 8
  · exact sholds8_any L l r u v b n q w0 w hu hl hq hz hc hst g0 hb ht hn hks k8
  by_cases k9 : q.k = 9
  · exact sholds9_any L l r u v b n q w0 w hu hl hq hz hc hst g0 hb ht hn hks k9
  by_cases k10 : q.k = 10
  · exact sholds10_any L l r u v b n q w0 w hu hl hq hz hc hst g0 hb ht hn hks k10
  exact sholds0_any L l r u v b n q w0 w hu hl hq hz hc hst g0 hb ht hn hks ⟨k2, k8, k9, k10⟩
end Go.Proofs.YtnjmgknicffcbaaGreatDoor
