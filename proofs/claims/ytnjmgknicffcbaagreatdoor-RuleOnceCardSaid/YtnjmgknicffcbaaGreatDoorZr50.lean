/- The law RuleRestores. Written by wip/tools/genrul.py. -/
import Derived.Test.YtnjmgknicffcbaaGreatDoorZr39
import Derived.Test.YtnjmgknicffcbaaGreatDoorZr43
import Derived.Test.YtnjmgknicffcbaaGreatDoorZr44
import Derived.Test.YtnjmgknicffcbaaGreatDoorZr48
import Derived.Test.YtnjmgknicffcbaaGreatDoorZr49
import Derived.Test.YtnjmgknicffcbaaGreatDoorZr13
import Derived.Test.YtnjmgknicffcbaaGreatDoorZr15
namespace Go.Proofs.YtnjmgknicffcbaaGreatDoor
open Go.RowKit Go.Joins
set_option linter.unusedSimpArgs false
set_option linter.unusedVariables false

theorem wp_push_ops {W w0 : World} {o : Oper} {a : Act} {K : Act → World → Prop} {Q : Exit → Act → World → Prop} (s x : Operand)
    (ho : o.op = .call { callee := .builtin .append, args := #[s, x], argTypes := #[45, 45] })
    (v vx : Value) (L M : List TO) (n m : Nat) (hn : n = L.length) (hm : m = M.length) (hs : a.eval s = v) (hown : TOO W w0.heap.size v L) (hx : a.eval x = vx) (hxv : TOV W vx M) (hlen : (n + m) * 48 ≤ 140737488355328) (hg : Gr w0 W)
    (h : ∀ A' c' w', TOO w' w0.heap.size (.slice A' (n + m) c') (L ++ M) → Gr w0 w' → W.grownBy w' v.ownBlock → K (a.put o.dst (.slice A' (n + m) c')) w') :
    o.wp Tryz.prog a W K Q := by
  subst hn hm
  obtain ⟨i0, hi, hz0, hz1, hz2⟩ := info_parts infoTOp
  have hsz := hg.size
  refine wp_append_sl W s x 45 ho w0.heap.size 52 i0 _ 4 48 Tryz.underlying45 hi hz0 hz1 hz2 rfl (by decide) v L.length (tocells L) hs hown vx M.length (tocells M) hx
    hxv.sl (tocells_one M) (by unfold maxLen; omega) hlen hsz (L.length + M.length) rfl ?_
  intro A' c' w' hown' hgr _
  refine h A' c' w' ?_ (gr_of_grown hg hown hgr hsz) hgr
  unfold TOO
  rw [List.length_append]
  unfold tocells at hown' ⊢
  rw [List.flatMap_append]
  exact hown'
/-- The place of a transaction in a slice, by itself. -/
theorem exec_index12 (ev : Operand → Value) (o : Oper) (x i : Operand) (ho : o.op = .indexAddr 23 x i) (b off n c d : Nat) (hx : ev x = .slice (some ⟨b, off, none⟩) n c) (hi : ev i = .int .i64 (d : Int)) (hd : d < n) (w : World) :
    Sem.run Tryz.prog (execOp ev o) w = .ok (.value (.pointer (some ⟨b, off + d * 12, none⟩))) w := by
  have hd0 : (0 : Int) ≤ d := Int.natCast_nonneg _
  have hdn : (d : Int) < n := by omega
  unfold execOp
  simp only [ho, hx, hi]
  go_simp
theorem key_le {L : List RU} (h : ∀ r ∈ L, r.key.size ≤ 9223372036854775807) : ∀ r ∈ L.map convR, r.key.size ≤ 9223372036854775807 := fun r hr => by
  obtain ⟨q, hq, rfl⟩ := List.mem_map.1 hr
  rw [(convR_key q).1]
  exact h q hq
theorem op_le {l : LG} (h : FitL l) {i : Nat} (hi : i < 8) {t : TX} (ht : t ∈ l i) : t.ops.length * 48 ≤ 140737488355328 ∧ ∀ o ∈ t.ops, o.key.size ≤ 9223372036854775807 ∧ o.elem.size ≤ 281474976710656 := by
  refine ⟨(h.c.tx i t hi ht).1, fun o ho => ?_⟩
  have := (h.c.tx i t hi ht).2 o ho
  exact ⟨by omega, this.2⟩
theorem own_emptyT (w : World) : TOO (w.alloc (.cells #[] 52)) w.heap.size (.slice (some ⟨w.heap.size, 0, none⟩) 0 0) [] :=
  World.ownsRow_made w #[] 0 (Nat.le_refl _) (Nat.zero_le _) rfl
set_option maxRecDepth 100000 in
set_option maxHeartbeats 8000000 in
theorem restores_law (v : Value) (L : List RU) (u : Nat → S3) (l : LG) (cv : Nat → Nat) (w : World) (hv : UV w v L) (hl : LV w u l) (hf : FitL l) (hks : ∀ r ∈ L, r.key.size ≤ 9223372036854775807) (hln : (L.length + 1) * 56 ≤ 140737488355328) (hp : Laid w) :
    Calls Tryz.prog 5 #[v, .agg (lcells u), .agg (vcells cv)] w fun e w' => e = .returned (.bool true) ∧ Gr w w' := by
  have HA2 := Lib.hid (fun w1 (g : Gr w w1) => awake14_any w1 (hp.gr g))
  have HC := Lib.hid (fun w1 (g : Gr w w1) => copied14_any v L hln w1 (hv.gr g))
  have HF := Lib.hid (fun v2 vo2 w1 (g : Gr w w1) (h2 : UV w1 v2 L) m ops (hos : ∀ o ∈ ops, o.key.size ≤ 9223372036854775807 ∧ o.elem.size ≤ 281474976710656) (h3 : TOV w1 vo2 ops) => form_any v2 vo2 L m ops hks hos w1 h2 h3 (hp.gr g))
  have HCK := Lib.hid (fun w1 (g : Gr w w1) => rcheck14_any v L hks w1 (hv.gr g))
  have HC9 := Lib.hid (fun w1 (g : Gr w w1) => rcheck9_any u l w1 (hl.gr g) hf.q)
  have HCP := Lib.hid (fun w1 (g : Gr w w1) => rcopy9_any u l w1 (hl.gr g) hf.c)
  have HCL := Lib.hid (fun w1 (g : Gr w w1) => rclose_any u l cv w1 (hl.gr g))
  have HOF := Lib.hid (fun i (hi : i < 8) t (ht : t ∈ l i) => op_le hf hi ht)
  have HFL := Lib.hid hf
  have HLV := Lib.hid hl
  have HV := Lib.hid hv
  have HKS := Lib.hid hks
  have HP := Lib.hid hp
  have HLN := Lib.hid hln
  obtain ⟨W, hW, hg, hsz, hL, hV⟩ := boxesLV u cv w
  have HL := Lib.hid hL
  have HVB := Lib.hid hV
  have HG := Lib.hid hg
  obtain ⟨A, c0, rfl, l1, ⟨l2, _⟩, l3⟩ := hv
  have l2' : c0 ≤ 9223372036854775807 := l2
  have HAT := Lib.hid l3
  obtain ⟨N, hN⟩ : ∃ N, N = L.length := ⟨_, rfl⟩
  have HN := Lib.hid hN
  rw [← hN] at HC HCK HV l1 ⊢
  rw [checkD_C] at HCK
  clear hL hV hg hsz hl hf hks hp hln hN l2 l3
  obtain ⟨ce, hce⟩ : ∃ x, x = checkC L := ⟨_, rfl⟩
  rw [← hce] at HCK
  have HCE := Lib.hid hce
  obtain ⟨c9, hc9⟩ : ∃ x, x = checkE l := ⟨_, rfl⟩
  rw [← hc9] at HC9
  have HCE9 := Lib.hid hc9
  clear hce hc9
  go_enter Tryz.func5, Tryz.ntmps5
  go_upto_region 1 with (fail)
  rw [← hW]
  clear hW
  go_wp2_with fail
  refine (HA2.out _ HG.out).mono ?_
  rintro e w1 ⟨rfl, g⟩
  have HG1 := Lib.hid g
  clear g
  by_cases hce0 : ce = 0
  case neg =>
    have t1 : (ce != 0) = true := by simpa using hce0
    go_wp2_with fail
    refine (HCK.out _ (HG.out.trans HG1.out)).mono ?_
    rintro e w2 ⟨rfl, g⟩
    have HG2 := Lib.hid (HG1.out.trans g)
    clear g
    go_wp2_with fail
    go_ret
    exact ⟨rfl, HG.out.trans HG2.out⟩
  subst hce0
  go_wp2_with fail
  refine (HCK.out _ (HG.out.trans HG1.out)).mono ?_
  rintro e w2 ⟨rfl, g⟩
  have HG2 := Lib.hid (HG1.out.trans g)
  clear g
  obtain ⟨m0, m1, m2, m3, m4, m5, m6, m7⟩ := (HL.out.gr HG2.out).all
  by_cases hc90 : c9 = 0
  case neg =>
    have t1 : ((c9 : Int) != 0) = true := by
      have : ¬ (c9 : Int) = 0 := by omega
      simpa using this
    go_wp2_with fail
    refine (HC9.out _ (HG.out.trans HG2.out)).mono ?_
    rintro e wz ⟨rfl, g⟩
    have HG3 := Lib.hid (HG2.out.trans g)
    clear g m0 m1 m2 m3 m4 m5 m6 m7
    go_wp2_with fail
    go_ret
    exact ⟨rfl, HG.out.trans HG3.out⟩
  subst hc90
  go_wp2_with fail
  refine (HC9.out _ (HG.out.trans HG2.out)).mono ?_
  rintro e wz ⟨rfl, g⟩
  have HG3 := Lib.hid (HG2.out.trans g)
  have HOK := Lib.hid (okL_iff.1 HCE9.out.symm)
  clear g m0 m1 m2 m3 m4 m5 m6 m7
  go_wp2_with fail
  go_loopw [7] (fun i wr => ∃ k : Nat, k ≤ 8 ∧ i = .int .i64 k ∧ Hid (Gr W wr ∧ ∀ q, q < k → ∀ t ∈ l q, formC L (q : Int) t.ops = 0)) (fun i _ => 8 - (intOf i).toNat)
  case atStart => exact ⟨0, by decide, rfl, Lib.hid ⟨HG3.out, fun q h => absurd h (Nat.not_lt_zero _)⟩⟩
  case round =>
    obtain ⟨k, hk, rfl, hst⟩ := hrel
    rename World => wo
    by_cases hlt : k < 8
    · have hk0 : (0 : Int) ≤ (k : Int) := Int.natCast_nonneg _
      have hk8 : (k : Int) < 8 := by omega
      have hC := HL.out.at hlt
      obtain ⟨Ak, ck, hxv, hnc, ⟨hcm, _⟩, hcell⟩ := HLV.out k hlt
      injection hxv with e1 e2 e3
      obtain ⟨A1, hA1⟩ : ∃ A, A = (u k).a := ⟨_, rfl⟩
      obtain ⟨n, hn⟩ : ∃ n, n = (u k).n := ⟨_, rfl⟩
      obtain ⟨c, hcc⟩ : ∃ c, c = (u k).c := ⟨_, rfl⟩
      rw [← hA1, ← hn, ← hcc] at hC
      have hnl : n = (l k).length := by rw [hn, e2]
      have hcc63 : c ≤ 9223372036854775807 := by rw [hcc, e3]; exact hcm
      have hnc1 : n ≤ c := by rw [hnl, hcc, e3]; exact hnc
      have hn1024 : n ≤ 1024 := by rw [hnl]; exact HOK.out.len k hlt
      have HA1 := Lib.hid hA1
      have HNL := Lib.hid hnl
      have HC03 := Lib.hid hC
      have HST := hst
      clear hA1 hn hcc hnl e1 e2 e3 hnc hcell hC hst hcm
      go_wp2_with fail
      go_loopw [8] (fun i wr => ∃ d : Nat, d ≤ n ∧ i = .int .i64 d ∧ Hid (Gr W wr ∧ ∀ q (hq : q < (l k).length), q < d → formC L (k : Int) (l k)[q].ops = 0)) (fun i _ => n - (intOf i).toNat)
      case atStart => exact ⟨0, Nat.zero_le _, rfl, Lib.hid ⟨HST.out.1, fun q _ h => absurd h (Nat.not_lt_zero _)⟩⟩
      case round =>
        obtain ⟨d, hd, rfl, hst⟩ := hrel
        rename World => wi
        have HC0 := Lib.hid (hst.out.1.cell HC03.out)
        have c0' := HC0.out
        by_cases hdn : d < n
        · have hdl : d < (l k).length := by rw [← HNL.out]; exact hdn
          have hd0 : (0 : Int) ≤ (d : Int) := Int.natCast_nonneg _
          have hdn1 : (d : Int) < (n : Int) := by omega
          obtain ⟨bb, off, ha, hxc⟩ := HLV.out.cell hlt hdl
          rw [← HA1.out] at ha
          subst ha
          obtain ⟨t, ht⟩ : ∃ t, t = (l k)[d] := ⟨_, rfl⟩
          rw [← ht] at hxc
          have HTD := Lib.hid ht
          have HTM := Lib.hid (show t ∈ l k by rw [ht]; exact List.getElem_mem hdl)
          obtain ⟨vx, hvx, x0, x1, x2, x3, x4, x5, x6, x7, x8, x9, x10, x11⟩ := hxc
          have HTV0 := Lib.hid hvx
          obtain ⟨Ax, cx, rfl, hxn, -, hxat⟩ := hvx
          obtain ⟨nx, hnx⟩ : ∃ n, n = t.ops.length := ⟨_, rfl⟩
          rw [← hnx] at x11 HTV0
          have HNX := Lib.hid hnx
          have HTV := HTV0
          have HGI := Lib.hid hst.out.1
          have HX11 := Lib.hid ((HG.out.trans HGI.out).cell x11)
          have HAL := Lib.hid hst.out
          obtain ⟨fc, hfc⟩ : ∃ x, x = formC L (k : Int) t.ops := ⟨_, rfl⟩
          have HZ := Lib.hid hfc
          have HFF : Hid (∀ v2 vo2 w1, Gr w w1 → UV w1 v2 L → TOV w1 vo2 t.ops → Calls Tryz.prog 24 #[v2, .int .i64 (k : Int), vo2] w1 fun e w' => e = .returned (.int .i64 fc) ∧ Gr w1 w') := Lib.hid (fun v2 vo2 w1 g h2 h3 => by rw [hfc]; exact HF.out v2 vo2 w1 g h2 (k : Int) t.ops (HOF.out k hlt t HTM.out).2 h3)
          clear x0 x1 x2 x3 x4 x5 x6 x7 x8 x9 x10 x11 hxn hxat hnx hst ht hfc HTV0
          go_upto_region 11 with (fail)
          clear c0'
          go_cut [49] (fun s49 wx => s49 = .bool (fc != 0) ∧ Hid (Gr W wx))
          case first =>
            as_aux_lemma =>
              refine wp_region_held_drew (S := fun w' => w'.cell? ⟨w.heap.size, k, none⟩ = some (.slice (some ⟨bb, off, none⟩) n c) ∧ w'.cell? ⟨bb, off + d * 12 + 11, none⟩ = some (.slice Ax nx cx)) (by kernel_rfl) ⟨(Gr.refl _).drew.cell HC0.out, (Gr.refl _).drew.cell HX11.out⟩ (fun hHeld => ?_)
              refine hTake (i := 0) rfl (by kernel_rfl) (by kernel_rfl) (by kernel_rfl) (by kernel_rfl) (by assumption) ?_
              apply Exists.intro
              refine ⟨fun _ _ _ h => h, fun wq hq => ?_, ?_⟩
              · go_light
                obtain ⟨q0, q11⟩ := hq
                go_simp
                try with_reducible rfl
                done
              try simp only [Act.put, List.setIfInBounds_toArray, List.set_cons_zero, List.set_cons_succ, List.getElem_toArray, List.getElem_cons_succ, List.getElem_cons_zero]
              refine hTake (i := 2) rfl (by kernel_rfl) (by kernel_rfl) (by kernel_rfl) (by kernel_rfl) (by assumption) ?_
              apply Exists.intro
              refine ⟨fun _ _ _ h => h, fun wq hq => ?_, ?_⟩
              · go_light
                obtain ⟨q0, q11⟩ := hq
                go_simp
                try with_reducible rfl
                done
              try simp only [Act.put, List.setIfInBounds_toArray, List.set_cons_zero, List.set_cons_succ, List.getElem_toArray, List.getElem_cons_succ, List.getElem_cons_zero]
              refine hTake (i := 4) rfl (by kernel_rfl) (by kernel_rfl) (by kernel_rfl) (by kernel_rfl) (by assumption) ?_
              apply Exists.intro
              refine ⟨fun _ _ _ h => h, fun wq hq => ?_, ?_⟩
              · go_light
                obtain ⟨q0, q11⟩ := hq
                go_simp
                try with_reducible rfl
                done
              try simp only [Act.put, List.setIfInBounds_toArray, List.set_cons_zero, List.set_cons_succ, List.getElem_toArray, List.getElem_cons_succ, List.getElem_cons_zero]
              refine hTake (i := 5) rfl (by kernel_rfl) (by kernel_rfl) (by kernel_rfl) (by kernel_rfl) (by assumption) ?_
              apply Exists.intro
              refine ⟨fun _ _ _ h => h, fun wq hq => ?_, ?_⟩
              · go_light
                obtain ⟨q0, q11⟩ := hq
                go_simp
                try with_reducible rfl
                done
              try simp only [Act.put, List.setIfInBounds_toArray, List.set_cons_zero, List.set_cons_succ, List.getElem_toArray, List.getElem_cons_succ, List.getElem_cons_zero]
              refine hTake (i := 6) rfl (by kernel_rfl) (by kernel_rfl) (by kernel_rfl) (by kernel_rfl) (by assumption) ?_
              apply Exists.intro
              refine ⟨fun _ _ _ h => h, fun wq hq => ?_, ?_⟩
              · go_light
                obtain ⟨q0, q11⟩ := hq
                go_simp
                try with_reducible rfl
                done
              try simp only [Act.put, List.setIfInBounds_toArray, List.set_cons_zero, List.set_cons_succ, List.getElem_toArray, List.getElem_cons_succ, List.getElem_cons_zero]
              refine hTake (i := 7) rfl (by kernel_rfl) (by kernel_rfl) (by kernel_rfl) (by kernel_rfl) (by assumption) ?_
              apply Exists.intro
              refine ⟨fun _ _ _ h => h, fun wq hq => ?_, ?_⟩
              · go_light
                obtain ⟨q0, q11⟩ := hq
                go_simp
                try with_reducible rfl
                done
              try simp only [Act.put, List.setIfInBounds_toArray, List.set_cons_zero, List.set_cons_succ, List.getElem_toArray, List.getElem_cons_succ, List.getElem_cons_zero]
              refine hTake (i := 8) rfl (by kernel_rfl) (by kernel_rfl) (by kernel_rfl) (by kernel_rfl) (by assumption) ?_
              apply Exists.intro
              refine ⟨fun _ _ _ h => h, fun wq hq => ?_, ?_⟩
              · exact exec_index12 _ _ (.tmp 42) (.tmp 43) rfl bb off n c d rfl rfl hdn wq
              try simp only [Act.put, List.setIfInBounds_toArray, List.set_cons_zero, List.set_cons_succ, List.getElem_toArray, List.getElem_cons_succ, List.getElem_cons_zero]
              refine hTake (i := 9) rfl (by kernel_rfl) (by kernel_rfl) (by kernel_rfl) (by kernel_rfl) (by assumption) ?_
              apply Exists.intro
              refine ⟨fun _ _ _ h => h, fun wq hq => ?_, ?_⟩
              · go_light
                obtain ⟨q0, q11⟩ := hq
                go_simp
                try with_reducible rfl
                done
              try simp only [Act.put, List.setIfInBounds_toArray, List.set_cons_zero, List.set_cons_succ, List.getElem_toArray, List.getElem_cons_succ, List.getElem_cons_zero]
              refine hTake (i := 10) rfl (by kernel_rfl) (by kernel_rfl) (by kernel_rfl) (by kernel_rfl) (by assumption) ?_
              apply Exists.intro
              refine ⟨fun _ _ _ h => h, fun wq hq => ?_, ?_⟩
              · go_light
                obtain ⟨q0, q11⟩ := hq
                go_simp
                try with_reducible rfl
                done
              try simp only [Act.put, List.setIfInBounds_toArray, List.set_cons_zero, List.set_cons_succ, List.getElem_toArray, List.getElem_cons_succ, List.getElem_cons_zero]
              have hg3d : Gr wi wi.drew := (Gr.refl _).drew
              generalize wi.drew = W3 at *
              have HGD := Lib.hid (HGI.out.trans hg3d)
              have HSD := Lib.hid hHeld
              clear hg3d hHeld
              refine wpAnyH_ready (rs := [1, 3]) (by kernel_rfl) (by simp) ?_
              refine AllReadyH.cons rfl (fun K hK => ?_) (AllReadyH.cons rfl (fun K hK => ?_) AllReadyH.nil)
              case refine_1 =>
                go_simp
                go_at_call 16
                refine (HC.out _ (HG.out.trans HGD.out)).mono ?_
                rintro e w2 ⟨A2, c2, rfl, hu, g2⟩
                have HG2 := Lib.hid (HGD.out.trans g2)
                have HU2 := Lib.hid hu.uv
                have HS2 : Hid (w2.cell? ⟨w.heap.size, k, none⟩ = some (.slice (some ⟨bb, off, none⟩) n c) ∧ w2.cell? ⟨bb, off + d * 12 + 11, none⟩ = some (.slice Ax nx cx)) := Lib.hid ⟨g2.cell HSD.out.1, g2.cell HSD.out.2⟩
                clear hu g2
                go_wp2_with fail
                refine hK.out _ _ HS2.out (fun hHeld => ?_)
                clear hK K
                try simp only [Act.put, List.setIfInBounds_toArray, List.set_cons_zero, List.set_cons_succ, List.getElem_toArray, List.getElem_cons_succ, List.getElem_cons_zero]
                refine wpAnyH_ready (rs := [3]) (by kernel_rfl) (by simp) ?_
                refine AllReadyH.cons rfl (fun K hK => ?_) AllReadyH.nil
                go_simp
                obtain ⟨w2b, hw2b, hg2b⟩ : ∃ X, X = w2.alloc (.cells #[] 52) ∧ Gr w2 X := ⟨_, rfl, (Gr.refl _).alloc _⟩
                have HS2b : Hid (w2b.cell? ⟨w.heap.size, k, none⟩ = some (.slice (some ⟨bb, off, none⟩) n c) ∧ w2b.cell? ⟨bb, off + d * 12 + 11, none⟩ = some (.slice Ax nx cx)) := Lib.hid ⟨hg2b.cell HS2.out.1, hg2b.cell HS2.out.2⟩
                have HO2b : Hid (TOO w2b w2.heap.size (.slice (some ⟨w2.heap.size, 0, none⟩) 0 0) []) := Lib.hid (by rw [hw2b]; exact own_emptyT w2)
                have HG2b := Lib.hid hg2b
                rw [← hw2b]
                clear hw2b hg2b hHeld
                refine hK.out _ _ HS2b.out (fun hHeld => ?_)
                clear hK K
                try simp only [Act.put, List.setIfInBounds_toArray, List.set_cons_zero, List.set_cons_succ, List.getElem_toArray, List.getElem_cons_succ, List.getElem_cons_zero]
                refine wpAnyH_ready (rs := [11]) (by kernel_rfl) (by simp) ?_
                refine AllReadyH.cons rfl (fun K hK => ?_) AllReadyH.nil
                refine wp_push_ops (w0 := w2) (.tmp 39) (.tmp 46) rfl (.slice (some ⟨w2.heap.size, 0, none⟩) 0 0) (.slice Ax nx cx) [] t.ops 0 nx rfl HNX.out rfl HO2b.out rfl (HTV.out.gr ((HG.out.trans HG2.out).trans HG2b.out)) (by have := (HOF.out k hlt t HTM.out).1; have := HNX.out; omega) HG2b.out ?_
                intro A3 c3 w3 hown3 hg3 hgrow3
                have HG3 := Lib.hid (HG2.out.trans hg3)
                have HU3 := Lib.hid (HU2.out.gr hg3)
                have HT3 : Hid (TOV w3 (.slice A3 nx c3) t.ops) := Lib.hid (by have h := TOO.tov hown3; rw [Nat.zero_add] at h; exact h)
                have HS3 : Hid (w3.cell? ⟨w.heap.size, k, none⟩ = some (.slice (some ⟨bb, off, none⟩) n c) ∧ w3.cell? ⟨bb, off + d * 12 + 11, none⟩ = some (.slice Ax nx cx)) := Lib.hid ⟨hg3.cell HS2.out.1, hg3.cell HS2.out.2⟩
                clear hown3 hg3 hgrow3 hHeld
                refine hK.out _ _ HS3.out (fun hHeld => ?_)
                clear hK K
                try simp only [Act.put, List.setIfInBounds_toArray, List.set_cons_zero, List.set_cons_succ, List.getElem_toArray, List.getElem_cons_succ, List.getElem_cons_zero]
                refine wpAnyH_ready (rs := [12]) (by kernel_rfl) (by simp) ?_
                refine AllReadyH.cons rfl (fun K hK => ?_) AllReadyH.nil
                go_simp
                go_at_call 24
                refine (HFF.out _ _ _ (HG.out.trans HG3.out) HU3.out HT3.out).mono ?_
                rintro e w4 ⟨rfl, g4⟩
                have HS4 : Hid (w4.cell? ⟨w.heap.size, k, none⟩ = some (.slice (some ⟨bb, off, none⟩) n c) ∧ w4.cell? ⟨bb, off + d * 12 + 11, none⟩ = some (.slice Ax nx cx)) := Lib.hid ⟨g4.cell HS3.out.1, g4.cell HS3.out.2⟩
                have HG4 := Lib.hid (HG3.out.trans g4)
                clear g4 hHeld
                go_wp2_with fail
                refine hK.out _ _ HS4.out (fun hHeld => ?_)
                clear hK K
                try simp only [Act.put, List.setIfInBounds_toArray, List.set_cons_zero, List.set_cons_succ, List.getElem_toArray, List.getElem_cons_succ, List.getElem_cons_zero]
                refine wpAnyH_ready (rs := [13]) (by kernel_rfl) (by simp) ?_
                refine AllReadyH.cons rfl (fun K hK => ?_) AllReadyH.nil
                go_simp
                refine hK.out _ _ HS4.out (fun hHeld => ?_)
                clear hK K
                try simp only [Act.put, List.setIfInBounds_toArray, List.set_cons_zero, List.set_cons_succ, List.getElem_toArray, List.getElem_cons_succ, List.getElem_cons_zero]
                refine wpAnyH_done (by kernel_rfl) ?_ _
                go_wp2_with fail
                go_meet
                exact ⟨rfl, Lib.hid HG4.out⟩
              case refine_2 =>
                go_simp
                obtain ⟨w2, hw2, hg2, hs2⟩ : ∃ X, X = W3.alloc (.cells #[] 52) ∧ Gr W3 X ∧ W3.heap.size < X.heap.size := ⟨_, rfl, (Gr.refl _).alloc _, by simp⟩
                have HS2 : Hid (w2.cell? ⟨w.heap.size, k, none⟩ = some (.slice (some ⟨bb, off, none⟩) n c) ∧ w2.cell? ⟨bb, off + d * 12 + 11, none⟩ = some (.slice Ax nx cx)) := Lib.hid ⟨hg2.cell HSD.out.1, hg2.cell HSD.out.2⟩
                have HO2 : Hid (TOO w2 W3.heap.size (.slice (some ⟨W3.heap.size, 0, none⟩) 0 0) []) := Lib.hid (by rw [hw2]; exact own_emptyT W3)
                have HG2 := Lib.hid hg2
                have HZ2 := Lib.hid hs2
                rw [← hw2]
                clear hw2 hg2 hs2
                refine hK.out _ _ HS2.out (fun hHeld => ?_)
                clear hK K
                try simp only [Act.put, List.setIfInBounds_toArray, List.set_cons_zero, List.set_cons_succ, List.getElem_toArray, List.getElem_cons_succ, List.getElem_cons_zero]
                refine wpAnyH_ready (rs := [1]) (by kernel_rfl) (by simp) ?_
                refine AllReadyH.cons rfl (fun K hK => ?_) AllReadyH.nil
                go_simp
                go_at_call 16
                refine (HC.out _ ((HG.out.trans HGD.out).trans HG2.out)).mono ?_
                rintro e w2b ⟨A2, c2, rfl, hu, g2⟩
                have HG2b := Lib.hid (HG2.out.trans g2)
                have HU2 := Lib.hid hu
                have HO2b := Lib.hid (HO2.out.gr g2)
                have HS2b : Hid (w2b.cell? ⟨w.heap.size, k, none⟩ = some (.slice (some ⟨bb, off, none⟩) n c) ∧ w2b.cell? ⟨bb, off + d * 12 + 11, none⟩ = some (.slice Ax nx cx)) := Lib.hid ⟨g2.cell HS2.out.1, g2.cell HS2.out.2⟩
                clear hu g2 hHeld
                go_wp2_with fail
                refine hK.out _ _ HS2b.out (fun hHeld => ?_)
                clear hK K
                try simp only [Act.put, List.setIfInBounds_toArray, List.set_cons_zero, List.set_cons_succ, List.getElem_toArray, List.getElem_cons_succ, List.getElem_cons_zero]
                refine wpAnyH_ready (rs := [11]) (by kernel_rfl) (by simp) ?_
                refine AllReadyH.cons rfl (fun K hK => ?_) AllReadyH.nil
                refine wp_push_ops (w0 := W3) (.tmp 39) (.tmp 46) rfl (.slice (some ⟨W3.heap.size, 0, none⟩) 0 0) (.slice Ax nx cx) [] t.ops 0 nx rfl HNX.out rfl HO2b.out rfl (HTV.out.gr ((HG.out.trans HGD.out).trans HG2b.out)) (by have := (HOF.out k hlt t HTM.out).1; have := HNX.out; omega) HG2b.out ?_
                intro A3 c3 w3 hown3 hg3 hgrow3
                have HG3 := Lib.hid (HGD.out.trans hg3)
                have HU3 : Hid (UV w3 (.slice A2 N c2) L) := Lib.hid (UO.uv (B := w2.heap.size) (World.ownsRow.kept HU2.out hgrow3 (.inr fun e => own_far HU2.out HZ2.out e.symm)))
                have HT3 : Hid (TOV w3 (.slice A3 nx c3) t.ops) := Lib.hid (by have h := TOO.tov hown3; rw [Nat.zero_add] at h; exact h)
                have HS3 : Hid (w3.cell? ⟨w.heap.size, k, none⟩ = some (.slice (some ⟨bb, off, none⟩) n c) ∧ w3.cell? ⟨bb, off + d * 12 + 11, none⟩ = some (.slice Ax nx cx)) := Lib.hid ⟨hg3.cell HSD.out.1, hg3.cell HSD.out.2⟩
                clear hown3 hg3 hgrow3 hHeld
                refine hK.out _ _ HS3.out (fun hHeld => ?_)
                clear hK K
                try simp only [Act.put, List.setIfInBounds_toArray, List.set_cons_zero, List.set_cons_succ, List.getElem_toArray, List.getElem_cons_succ, List.getElem_cons_zero]
                refine wpAnyH_ready (rs := [12]) (by kernel_rfl) (by simp) ?_
                refine AllReadyH.cons rfl (fun K hK => ?_) AllReadyH.nil
                go_simp
                go_at_call 24
                refine (HFF.out _ _ _ (HG.out.trans HG3.out) HU3.out HT3.out).mono ?_
                rintro e w4 ⟨rfl, g4⟩
                have HS4 : Hid (w4.cell? ⟨w.heap.size, k, none⟩ = some (.slice (some ⟨bb, off, none⟩) n c) ∧ w4.cell? ⟨bb, off + d * 12 + 11, none⟩ = some (.slice Ax nx cx)) := Lib.hid ⟨g4.cell HS3.out.1, g4.cell HS3.out.2⟩
                have HG4 := Lib.hid (HG3.out.trans g4)
                clear g4 hHeld
                go_wp2_with fail
                refine hK.out _ _ HS4.out (fun hHeld => ?_)
                clear hK K
                try simp only [Act.put, List.setIfInBounds_toArray, List.set_cons_zero, List.set_cons_succ, List.getElem_toArray, List.getElem_cons_succ, List.getElem_cons_zero]
                refine wpAnyH_ready (rs := [13]) (by kernel_rfl) (by simp) ?_
                refine AllReadyH.cons rfl (fun K hK => ?_) AllReadyH.nil
                go_simp
                refine hK.out _ _ HS4.out (fun hHeld => ?_)
                clear hK K
                try simp only [Act.put, List.setIfInBounds_toArray, List.set_cons_zero, List.set_cons_succ, List.getElem_toArray, List.getElem_cons_succ, List.getElem_cons_zero]
                refine wpAnyH_done (by kernel_rfl) ?_ _
                go_wp2_with fail
                go_meet
                exact ⟨rfl, Lib.hid HG4.out⟩
          case rest =>
            obtain ⟨rfl, hcc⟩ := hcut
            rename World => wc
            have HGC := Lib.hid hcc.out
            clear hcc
            by_cases hf0 : fc = 0
            · subst hf0
              have HS : Hid (Gr W wc ∧ ∀ q (hq : q < (l k).length), q < d + 1 → formC L (k : Int) (l k)[q].ops = 0) := Lib.hid ⟨HGC.out, fun q hq hqd => by
                by_cases e : q = d
                · subst e; rw [← HTD.out]; exact HZ.out.symm
                · exact HAL.out.2 q hq (by omega)⟩
              go_wp2_with fail
              go_roundw
              case measure => simp [intOf]; omega
              case rel => exact ⟨d + 1, by omega, by go_num, HS⟩
            · have t1 : (fc != 0) = true := by simpa using hf0
              go_wp2_with fail
              go_ret
              exact ⟨rfl, HG.out.trans HGC.out⟩
        · obtain rfl : d = n := by omega
          have HS : Hid (Gr W wi ∧ ∀ q, q < k + 1 → ∀ t ∈ l q, formC L (q : Int) t.ops = 0) := Lib.hid ⟨hst.out.1, fun q hq t ht => by
            by_cases e : q = k
            · subst e
              obtain ⟨p, hp, rfl⟩ := List.mem_iff_getElem.1 ht
              exact hst.out.2 p hp (by rw [← HNL.out] at hp; exact hp)
            · exact HST.out.2 q (by omega) t ht⟩
          clear hst
          go_wp2_with fail
          go_roundw
          case measure => simp [intOf]; omega
          case rel => exact ⟨k + 1, by omega, by go_num, HS⟩
    · have h8 : k = 8 := by omega
      have HFO : Hid (AllForm L l) := Lib.hid (by have := hst.out.2; rw [h8] at this; exact this)
      have hge : ¬ ((k : Int) < 8) := by omega
      clear h8 hk hlt
      have HGO := Lib.hid (HG.out.trans hst.out.1)
      have HGOW := Lib.hid hst.out.1
      clear hst
      go_wp2_with fail
      go_loopw [9, 10] (fun s i wr => ∃ j : Nat, j ≤ N ∧ i = .int .i64 j ∧ Hid (UO wr wo.heap.size s ((L.take j).map convR) ∧ Gr wo wr)) (fun _ i _ => N - (intOf i).toNat)
      case atStart => exact ⟨0, Nat.zero_le _, rfl, Lib.hid ⟨UO.nil _ _, Gr.refl _⟩⟩
      case round =>
        obtain ⟨j, hj, rfl, hst⟩ := hrel
        rename World => wr
        by_cases hjn : j < N
        · have hjL : j < L.length := by rw [← HN.out]; exact hjn
          have hj0 : (0 : Int) ≤ (j : Int) := Int.natCast_nonneg _
          have hj1 : (j : Int) < (N : Int) := by omega
          obtain ⟨b, off, rfl, hrc⟩ := HAT.out j hjL
          obtain ⟨r, hr⟩ : ∃ r, r = L[j] := ⟨_, rfl⟩
          rw [← hr] at hrc
          have HTK : Hid ((L.take (j + 1)).map convR = (L.take j).map convR ++ [convR r]) := Lib.hid (by rw [List.take_succ_eq_append_getElem hjL, List.map_append, ← hr]; rfl)
          obtain ⟨x0, x1, x2, x3, x4⟩ := hrc.gr (HGO.out.trans hst.out.2)
          obtain ⟨W5, hW5, hg5, hx5⟩ := rubox wr r
          have hb5 : W5.heap[wr.heap.size]? = some (.cells (ruv r) 49 (0, 0)) := by rw [hW5]; exact heap_allocR _ _ _
          obtain ⟨A2, c2, hs2⟩ := uv_form hst.out.1.uv
          subst hs2
          have hlen2 : ((L.take j).map convR).length = j := by rw [List.length_map, List.length_take]; omega
          rw [hlen2]
          have HS5 := Lib.hid (And.intro (hst.out.1.gr hg5) (hst.out.2.trans hg5))
          have HSW := Lib.hid hst.out.2
          rw [hlen2] at HS5
          have HG5 := Lib.hid hg5
          have HNE : Hid ((Value.slice A2 j c2).ownBlock ≠ some wr.heap.size) := Lib.hid (fun e => by have hs1 := hst.out.1; rw [hlen2] at hs1; have := (World.ownsRow.lt (h := hs1) _ e).2; omega)
          have HB5 := Lib.hid hb5
          have HL2 := Lib.hid hlen2
          have hln : (j + 1) * 56 ≤ 140737488355328 := by have := HLN.out; have := HN.out; omega
          have HLJ := Lib.hid hln
          obtain ⟨rk, rkey, roth, rmin, rst⟩ := r
          obtain ⟨O, hO⟩ : ∃ O, O = (L.take j).map convR := ⟨_, rfl⟩
          rw [← hO] at HTK HS5 HL2
          clear hr hrc hg5 hb5 hst hlen2 hx5 hln hO
          go_upto_region 18 with (fail)
          change Code.wp Tryz.prog _ _ _ (wr.alloc (.cells (ruv ⟨rk, rkey, roth, rmin, rst⟩) 49))
          rw [← hW5]
          clear hW5 x0 x1 x2 x3 x4
          have y0 : W5.cell? ⟨wr.heap.size, 0, none⟩ = some (.int .i64 rk) := by rw [cell_of_block HB5.out]; rfl
          have y1 : W5.cell? ⟨wr.heap.size, 1, none⟩ = some (.string rkey) := by rw [cell_of_block HB5.out]; rfl
          have y2 : W5.cell? ⟨wr.heap.size, 2, none⟩ = some (.string roth) := by rw [cell_of_block HB5.out]; rfl
          have y3 : W5.cell? ⟨wr.heap.size, 3, none⟩ = some (.int .i64 rmin) := by rw [cell_of_block HB5.out]; rfl
          have y4 : W5.cell? ⟨wr.heap.size, 4, none⟩ = some (.int .i64 rst) := by rw [cell_of_block HB5.out]; rfl
          have f0 := unfrozen_of_block HB5.out 0
          have f3 := unfrozen_of_block HB5.out 3
          by_cases k2 : rk = 2
          · subst k2
            have HCV : Hid (convR ⟨2, rkey, roth, rmin, rst⟩ = ⟨1, rkey, roth, 0, rst⟩) := Lib.hid rfl
            rw [HCV.out] at HTK
            go_upto_region 20 with (fail)
            obtain ⟨W6, hW6⟩ : ∃ X, X = (W5.setCell ⟨wr.heap.size, 0, none⟩ (.int .i64 1)).setCell ⟨wr.heap.size, 3, none⟩ (.int .i64 0) := ⟨_, rfl⟩
            have hg6 : Gr wr W6 := by rw [hW6]; exact ((HG5.out.setCell (Nat.le_refl _) _).setCell (Nat.le_refl _) _)
            have hk6 : Kp (some wr.heap.size) W5 W6 := by rw [hW6]; exact (((Kp.refl _ _).set (.inr rfl) _ _).set (.inr rfl) _ _)
            have z0 : W6.cell? ⟨wr.heap.size, 0, none⟩ = some (.int .i64 1) := by rw [hW6, World.cell?_setCell_other _ _ _ _ (by simp)]; exact World.cell?_setCell_same _ _ _ y0
            have z1 : W6.cell? ⟨wr.heap.size, 1, none⟩ = some (.string rkey) := by rw [hW6, World.cell?_setCell_other _ _ _ _ (by simp), World.cell?_setCell_other _ _ _ _ (by simp)]; exact y1
            have z2 : W6.cell? ⟨wr.heap.size, 2, none⟩ = some (.string roth) := by rw [hW6, World.cell?_setCell_other _ _ _ _ (by simp), World.cell?_setCell_other _ _ _ _ (by simp)]; exact y2
            have z3 : W6.cell? ⟨wr.heap.size, 3, none⟩ = some (.int .i64 0) := by rw [hW6]; exact World.cell?_setCell_same _ _ (.int .i64 0) (by rw [World.cell?_setCell_other _ _ _ _ (by simp)]; exact y3)
            have z4 : W6.cell? ⟨wr.heap.size, 4, none⟩ = some (.int .i64 rst) := by rw [hW6, World.cell?_setCell_other _ _ _ _ (by simp), World.cell?_setCell_other _ _ _ _ (by simp)]; exact y4
            change Code.wp Tryz.prog _ _ _ ((W5.setCell ⟨wr.heap.size, 0, none⟩ (.int .i64 1)).setCell ⟨wr.heap.size, 3, none⟩ (.int .i64 0))
            rw [← hW6]
            have HS6 : Hid (UO W6 wo.heap.size (.slice A2 j c2) O ∧ Gr wo W6) := Lib.hid ⟨World.ownsRow.kept HS5.out.1 hk6 (.inr HNE.out), HSW.out.trans hg6⟩
            clear hW6 hg6 hk6 y0 y1 y2 y3 y4 f0 f3
            have HZ5 := Lib.hid (And.intro HTK.out HLJ.out)
            go_wp2_with (first | (at_builtin; refine wpList_push_u (w0 := wo) rfl (.tmp 69) (.tmp 71) rfl (.slice A2 j c2) (.slice (some ⟨W6.heap.size, 0, none⟩) 1 1) O [⟨1, rkey, roth, 0, rst⟩] j 1 HL2.out.symm rfl rfl (HS6.out.1.gr (gr_box _ _)) rfl (uv_one W6 ⟨1, rkey, roth, 0, rst⟩ _ rfl) HLJ.out (HS6.out.2.alloc _) ?_))
            intro A9 c9' w9 hown9 hg9 hgrow9
            have HS9 : Hid (UO w9 wo.heap.size (.slice A9 (j + 1) c9') ((L.take (j + 1)).map convR) ∧ Gr wo w9) := Lib.hid ⟨by rw [HTK.out]; exact hown9, hg9⟩
            clear hown9 hg9 hgrow9
            go_wp2_with fail
            go_roundw
            case measure => simp [intOf]; omega
            case rel => exact ⟨j + 1, by omega, by go_num, HS9⟩
          · by_cases k8 : rk = 8
            · subst k8
              have HCV : Hid (convR ⟨8, rkey, roth, rmin, rst⟩ = ⟨3, rkey, roth, rmin, rst⟩) := Lib.hid rfl
              rw [HCV.out] at HTK
              go_upto_region 22 with (fail)
              obtain ⟨W6, hW6⟩ : ∃ X, X = W5.setCell ⟨wr.heap.size, 0, none⟩ (.int .i64 3) := ⟨_, rfl⟩
              have hg6 : Gr wr W6 := by rw [hW6]; exact (HG5.out.setCell (Nat.le_refl _) _)
              have hk6 : Kp (some wr.heap.size) W5 W6 := by rw [hW6]; exact ((Kp.refl _ _).set (.inr rfl) _ _)
              have z0 : W6.cell? ⟨wr.heap.size, 0, none⟩ = some (.int .i64 3) := by rw [hW6]; exact World.cell?_setCell_same _ _ _ y0
              have z1 : W6.cell? ⟨wr.heap.size, 1, none⟩ = some (.string rkey) := by rw [hW6, World.cell?_setCell_other _ _ _ _ (by simp)]; exact y1
              have z2 : W6.cell? ⟨wr.heap.size, 2, none⟩ = some (.string roth) := by rw [hW6, World.cell?_setCell_other _ _ _ _ (by simp)]; exact y2
              have z3 : W6.cell? ⟨wr.heap.size, 3, none⟩ = some (.int .i64 rmin) := by rw [hW6, World.cell?_setCell_other _ _ _ _ (by simp)]; exact y3
              have z4 : W6.cell? ⟨wr.heap.size, 4, none⟩ = some (.int .i64 rst) := by rw [hW6, World.cell?_setCell_other _ _ _ _ (by simp)]; exact y4
              change Code.wp Tryz.prog _ _ _ (W5.setCell ⟨wr.heap.size, 0, none⟩ (.int .i64 3))
              rw [← hW6]
              have HS6 : Hid (UO W6 wo.heap.size (.slice A2 j c2) O ∧ Gr wo W6) := Lib.hid ⟨World.ownsRow.kept HS5.out.1 hk6 (.inr HNE.out), HSW.out.trans hg6⟩
              clear hW6 hg6 hk6 y0 y1 y2 y3 y4 f0 f3
              have HZ5 := Lib.hid (And.intro HTK.out HLJ.out)
              go_wp2_with (first | (at_builtin; refine wpList_push_u (w0 := wo) rfl (.tmp 69) (.tmp 71) rfl (.slice A2 j c2) (.slice (some ⟨W6.heap.size, 0, none⟩) 1 1) O [⟨3, rkey, roth, rmin, rst⟩] j 1 HL2.out.symm rfl rfl (HS6.out.1.gr (gr_box _ _)) rfl (uv_one W6 ⟨3, rkey, roth, rmin, rst⟩ _ rfl) HLJ.out (HS6.out.2.alloc _) ?_))
              intro A9 c9' w9 hown9 hg9 hgrow9
              have HS9 : Hid (UO w9 wo.heap.size (.slice A9 (j + 1) c9') ((L.take (j + 1)).map convR) ∧ Gr wo w9) := Lib.hid ⟨by rw [HTK.out]; exact hown9, hg9⟩
              clear hown9 hg9 hgrow9
              go_wp2_with fail
              go_roundw
              case measure => simp [intOf]; omega
              case rel => exact ⟨j + 1, by omega, by go_num, HS9⟩
            · have HCV : Hid (convR ⟨rk, rkey, roth, rmin, rst⟩ = ⟨rk, rkey, roth, rmin, rst⟩) := Lib.hid (by unfold convR; rw [if_neg k2, if_neg k8])
              rw [HCV.out] at HTK
              have t2 : (rk == 2) = false := by simpa using k2
              have t8 : (rk == 8) = false := by simpa using k8
              have HS6 := HS5
              have HZ5 := Lib.hid (And.intro HTK.out HLJ.out)
              go_wp2_with (first | (at_builtin; refine wpList_push_u (w0 := wo) rfl (.tmp 69) (.tmp 71) rfl (.slice A2 j c2) (.slice (some ⟨W5.heap.size, 0, none⟩) 1 1) O [⟨rk, rkey, roth, rmin, rst⟩] j 1 HL2.out.symm rfl rfl (HS6.out.1.gr (gr_box _ _)) rfl (uv_one W5 ⟨rk, rkey, roth, rmin, rst⟩ _ rfl) HLJ.out (HS6.out.2.alloc _) ?_))
              intro A9 c9' w9 hown9 hg9 hgrow9
              have HS9 : Hid (UO w9 wo.heap.size (.slice A9 (j + 1) c9') ((L.take (j + 1)).map convR) ∧ Gr wo w9) := Lib.hid ⟨by rw [HTK.out]; exact hown9, hg9⟩
              clear hown9 hg9 hgrow9
              go_wp2_with fail
              go_roundw
              case measure => simp [intOf]; omega
              case rel => exact ⟨j + 1, by omega, by go_num, HS9⟩
        · obtain rfl : j = N := by omega
          have htk : L.take j = L := by rw [HN.out]; exact List.take_length
          have hso := hst.out.1
          rw [htk] at hso
          obtain ⟨As, cs, hs2⟩ := uv_form hso.uv
          subst hs2
          have hml : (L.map convR).length = j := by rw [List.length_map, HN.out]
          rw [hml] at hso ⊢
          have HSO := Lib.hid hso.uv
          have HGW := Lib.hid (HGO.out.trans hst.out.2)
          have HLBW := Lib.hid (HL.out.gr (HGOW.out.trans hst.out.2))
          have HVBW := Lib.hid (HVB.out.gr (HGOW.out.trans hst.out.2))
          have HH := Lib.hid (fun u2 c w1 (g : Gr w w1) (h1 : UV w1 (.slice As j cs) (L.map convR)) (h2 : LV w1 u2 l) => holds14_any ⟨As, j, cs⟩ (L.map convR) u2 l c w1 h1 h2 HFL.out.q (key_le HKS.out) (HP.out.gr g))
          have HRS := Lib.hid (fun c (hc : IsClose l cv c) => restores HCE.out.symm HFO.out HCE9.out.symm (closedB_iff.2 hc.closed))
          clear hst htk hso hml
          go_upto_region 23 with (fail)
          refine wp_region_held_drew (S := fun w' => LC w' w.heap.size u ∧ VC w' (w.heap.size + 1) cv) (by kernel_rfl) ⟨(HLBW.out.gr (Gr.refl _).drew).all, (HVBW.out.gr (Gr.refl _).drew).all⟩ (fun hHeld => ?_)
          refine hTake (i := 0) rfl (by kernel_rfl) (by kernel_rfl) (by kernel_rfl) (by kernel_rfl) (by assumption) ?_
          apply Exists.intro
          refine ⟨fun _ _ _ h => h, fun wq hq => ?_, ?_⟩
          · go_light
            obtain ⟨⟨p0, p1, p2, p3, p4, p5, p6, p7⟩, ⟨q0, q1, q2, q3, q4, q5, q6, q7⟩⟩ := hq
            go_simp
            try with_reducible rfl
            done
          try simp only [Act.put, List.setIfInBounds_toArray, List.set_cons_zero, List.set_cons_succ, List.getElem_toArray, List.getElem_cons_succ, List.getElem_cons_zero]
          refine hTake (i := 1) rfl (by kernel_rfl) (by kernel_rfl) (by kernel_rfl) (by kernel_rfl) (by assumption) ?_
          apply Exists.intro
          refine ⟨fun _ _ _ h => h, fun wq hq => ?_, ?_⟩
          · go_light
            obtain ⟨⟨p0, p1, p2, p3, p4, p5, p6, p7⟩, ⟨q0, q1, q2, q3, q4, q5, q6, q7⟩⟩ := hq
            go_simp
            try with_reducible rfl
            done
          try simp only [Act.put, List.setIfInBounds_toArray, List.set_cons_zero, List.set_cons_succ, List.getElem_toArray, List.getElem_cons_succ, List.getElem_cons_zero]
          refine hTake (i := 3) rfl (by kernel_rfl) (by kernel_rfl) (by kernel_rfl) (by kernel_rfl) (by assumption) ?_
          apply Exists.intro
          refine ⟨fun _ _ _ h => h, fun wq hq => ?_, ?_⟩
          · go_light
            obtain ⟨⟨p0, p1, p2, p3, p4, p5, p6, p7⟩, ⟨q0, q1, q2, q3, q4, q5, q6, q7⟩⟩ := hq
            go_simp
            try with_reducible rfl
            done
          try simp only [Act.put, List.setIfInBounds_toArray, List.set_cons_zero, List.set_cons_succ, List.getElem_toArray, List.getElem_cons_succ, List.getElem_cons_zero]
          refine hTake (i := 4) rfl (by kernel_rfl) (by kernel_rfl) (by kernel_rfl) (by kernel_rfl) (by assumption) ?_
          apply Exists.intro
          refine ⟨fun _ _ _ h => h, fun wq hq => ?_, ?_⟩
          · go_light
            obtain ⟨⟨p0, p1, p2, p3, p4, p5, p6, p7⟩, ⟨q0, q1, q2, q3, q4, q5, q6, q7⟩⟩ := hq
            go_simp
            try with_reducible rfl
            done
          try simp only [Act.put, List.setIfInBounds_toArray, List.set_cons_zero, List.set_cons_succ, List.getElem_toArray, List.getElem_cons_succ, List.getElem_cons_zero]
          have hg3d : Gr wr wr.drew := (Gr.refl _).drew
          generalize wr.drew = W3 at *
          have HGD := Lib.hid hg3d
          have HSD := Lib.hid hHeld
          clear hg3d hHeld
          refine wpAnyH_ready (rs := [2]) (by kernel_rfl) (by simp) ?_
          refine AllReadyH.cons rfl (fun K hK => ?_) AllReadyH.nil
          go_simp
          go_at_call 17
          refine (HCP.out _ (HGW.out.trans HGD.out)).mono ?_
          rintro e w5 ⟨u5', rfl, hu5, g5⟩
          have HG5 := Lib.hid (HGD.out.trans g5)
          have HU5 := Lib.hid hu5.lv
          have HS5 : Hid (LC w5 w.heap.size u ∧ VC w5 (w.heap.size + 1) cv) := Lib.hid ⟨HSD.out.1.gr g5, HSD.out.2.gr g5⟩
          clear g5 hu5
          go_wp2_with fail
          refine hK.out _ _ HS5.out (fun hHeld => ?_)
          clear hK K
          try simp only [Act.put, List.setIfInBounds_toArray, List.set_cons_zero, List.set_cons_succ, List.getElem_toArray, List.getElem_cons_succ, List.getElem_cons_zero]
          refine wpAnyH_ready (rs := [5]) (by kernel_rfl) (by simp) ?_
          refine AllReadyH.cons rfl (fun K hK => ?_) AllReadyH.nil
          go_simp
          go_at_call 25
          refine (HCL.out _ (HGW.out.trans HG5.out)).mono ?_
          rintro e w6 ⟨c6, rfl, hc6, g6⟩
          have HG6 := Lib.hid (HG5.out.trans g6)
          have HU6 := Lib.hid (HU5.out.gr g6)
          have HC6 := Lib.hid hc6
          have HS6 : Hid (LC w6 w.heap.size u ∧ VC w6 (w.heap.size + 1) cv) := Lib.hid ⟨HS5.out.1.gr g6, HS5.out.2.gr g6⟩
          clear g6 hc6 hHeld
          go_wp2_with fail
          refine hK.out _ _ HS6.out (fun hHeld => ?_)
          clear hK K
          try simp only [Act.put, List.setIfInBounds_toArray, List.set_cons_zero, List.set_cons_succ, List.getElem_toArray, List.getElem_cons_succ, List.getElem_cons_zero]
          refine wpAnyH_ready (rs := [6]) (by kernel_rfl) (by simp) ?_
          refine AllReadyH.cons rfl (fun K hK => ?_) AllReadyH.nil
          go_simp
          go_at_call 15
          refine (HH.out _ c6 _ (HGW.out.trans HG6.out) (HSO.out.gr HG6.out) HU6.out).mono ?_
          rintro e w7 ⟨rfl, g7⟩
          have HG7 := Lib.hid ((HGW.out.trans HG6.out).trans g7)
          have HS7 : Hid (LC w7 w.heap.size u ∧ VC w7 (w.heap.size + 1) cv) := Lib.hid ⟨HS6.out.1.gr g7, HS6.out.2.gr g7⟩
          rw [(HRS.out c6 HC6.out).1, (HRS.out c6 HC6.out).2]
          clear g7 hHeld
          go_wp2_with fail
          refine hK.out _ _ HS7.out (fun hHeld => ?_)
          clear hK K
          try simp only [Act.put, List.setIfInBounds_toArray, List.set_cons_zero, List.set_cons_succ, List.getElem_toArray, List.getElem_cons_succ, List.getElem_cons_zero]
          refine hTake (i := 7) rfl (by kernel_rfl) (by kernel_rfl) (by kernel_rfl) (by kernel_rfl) (by assumption) ?_
          apply Exists.intro
          refine ⟨fun _ _ _ h => h, fun wq hq => ?_, ?_⟩
          · go_light
            obtain ⟨⟨p0, p1, p2, p3, p4, p5, p6, p7⟩, ⟨q0, q1, q2, q3, q4, q5, q6, q7⟩⟩ := hq
            go_simp
            try with_reducible rfl
            done
          try simp only [Act.put, List.setIfInBounds_toArray, List.set_cons_zero, List.set_cons_succ, List.getElem_toArray, List.getElem_cons_succ, List.getElem_cons_zero]
          refine hTake (i := 8) rfl (by kernel_rfl) (by kernel_rfl) (by kernel_rfl) (by kernel_rfl) (by assumption) ?_
          apply Exists.intro
          refine ⟨fun _ _ _ h => h, fun wq hq => ?_, ?_⟩
          · go_light
            obtain ⟨⟨p0, p1, p2, p3, p4, p5, p6, p7⟩, ⟨q0, q1, q2, q3, q4, q5, q6, q7⟩⟩ := hq
            go_simp
            try with_reducible rfl
            done
          try simp only [Act.put, List.setIfInBounds_toArray, List.set_cons_zero, List.set_cons_succ, List.getElem_toArray, List.getElem_cons_succ, List.getElem_cons_zero]
          refine hTake (i := 9) rfl (by kernel_rfl) (by kernel_rfl) (by kernel_rfl) (by kernel_rfl) (by assumption) ?_
          apply Exists.intro
          refine ⟨fun _ _ _ h => h, fun wq hq => ?_, ?_⟩
          · go_light
            obtain ⟨⟨p0, p1, p2, p3, p4, p5, p6, p7⟩, ⟨q0, q1, q2, q3, q4, q5, q6, q7⟩⟩ := hq
            go_simp
            try with_reducible rfl
            done
          try simp only [Act.put, List.setIfInBounds_toArray, List.set_cons_zero, List.set_cons_succ, List.getElem_toArray, List.getElem_cons_succ, List.getElem_cons_zero]
          refine wpAnyH_ready (rs := [10]) (by kernel_rfl) (by simp) ?_
          refine AllReadyH.cons rfl (fun K hK => ?_) AllReadyH.nil
          go_simp
          refine hK.out _ _ HS7.out (fun hHeld => ?_)
          clear hK K
          try simp only [Act.put, List.setIfInBounds_toArray, List.set_cons_zero, List.set_cons_succ, List.getElem_toArray, List.getElem_cons_succ, List.getElem_cons_zero]
          refine wpAnyH_ready (rs := [11]) (by kernel_rfl) (by simp) ?_
          refine AllReadyH.cons rfl (fun K hK => ?_) AllReadyH.nil
          go_simp
          refine hK.out _ _ HS7.out (fun hHeld => ?_)
          clear hK K
          try simp only [Act.put, List.setIfInBounds_toArray, List.set_cons_zero, List.set_cons_succ, List.getElem_toArray, List.getElem_cons_succ, List.getElem_cons_zero]
          refine wpAnyH_done (by kernel_rfl) ?_ _
          go_wp2_with fail
          go_ret
          exact ⟨rfl, HG7.out⟩
end Go.Proofs.YtnjmgknicffcbaaGreatDoor
