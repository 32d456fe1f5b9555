/- Walks: unseen. Walks: value's on. -/
import Derived.Test.YtnjmgknicffcbaaGreatDoorZr24
namespace Go.Proofs.YtnjmgknicffcbaaGreatDoor
open Go.RowKit Go.Joins Go.Maps
set_option linter.unusedSimpArgs false
set_option linter.unusedVariables false

/-- Every cell stays. -/
def Ck (w w' : World) : Prop := ∀ (p : Addr) (v : Value), w.cell? p = some v → w'.cell? p = some v
theorem Ck.refl (w : World) : Ck w w := fun _ _ h => h
theorem Ck.trans {a b c : World} (h : Ck a b) (k : Ck b c) : Ck a c := fun p v hc => k p v (h p v hc)
theorem Ck.of_gr {a b : World} (g : Gr a b) : Ck a b := fun p v hc => g.cell hc
theorem cell_mapless {w : World} {bm : Nat} {es : Array MapEntry} {clk : Nat} (hm : w.heap[bm]? = some (.map es clk)) {p : Addr} {v : Value} (hc : w.cell? p = some v) : p.block ≠ bm := by
  intro e
  unfold World.cell? at hc
  rw [e, hm] at hc
  simp at hc
theorem SeenM.ck {w w' : World} {b n : Nat} {F : ByteArray → Nat → Nat} (h : SeenM w b n F) (g : w.grownBy w' (some b)) : Ck w w' := by
  obtain ⟨D, ⟨es, clk, hb, -⟩, -, -⟩ := h
  exact fun p v hc => Kp.cell (show Kp (some b) w w' from g) hc fun e => cell_mapless hb hc (by injection e)
theorem TCell.ck {w w' : World} {b off : Nat} {o : TO} (h : TCell w b off o) (c : Ck w w') : TCell w' b off o := ⟨c _ _ h.1, c _ _ h.2.1, c _ _ h.2.2.1, c _ _ h.2.2.2⟩
theorem TOV.ck {w w' : World} {v : Value} {ops : List TO} (h : TOV w v ops) (c : Ck w w') : TOV w' v ops := by
  obtain ⟨A, cp, hv, h1, h2, h3⟩ := h
  exact ⟨A, cp, hv, h1, h2, fun j hj => by obtain ⟨b, off, ha, hc⟩ := h3 j hj; exact ⟨b, off, ha, hc.ck c⟩⟩
theorem DX.ck {w w' : World} {d : DD} (h : DX w d) (c : Ck w w') : DX w' d := by
  obtain ⟨⟨v, hv, h1, h2, h3, h4, h5, h6, h7, h8, h9, h10, h11, h12⟩, hi⟩ := h
  exact ⟨⟨v, hv.ck c, c _ _ h1, c _ _ h2, c _ _ h3, c _ _ h4, c _ _ h5, c _ _ h6, c _ _ h7, c _ _ h8, c _ _ h9, c _ _ h10, c _ _ h11, c _ _ h12⟩, hi⟩
theorem DV.ck {w w' : World} {v : Value} {L : List DD} (h : DV w v L) (c : Ck w w') : DV w' v L := by
  obtain ⟨A, cp, hv, h1, h2, h3⟩ := h
  exact ⟨A, cp, hv, h1, h2, fun j hj => by obtain ⟨b, off, ha, hc⟩ := h3 j hj; exact ⟨b, off, ha, c _ _ hc.1, c _ _ hc.2⟩⟩
/-- What is counted, of each thing, by the first j deeds. -/
def seenF (L : List DD) : Nat → ByteArray → Nat → Nat
  | 0 => fun _ _ => 0
  | j + 1 => match L[j]? with | some d => fun x => if x = aboutT d.op then jn (seenF L j (aboutT d.op)) d.t.deps else seenF L j x | none => seenF L j
theorem seenF_at {L : List DD} {j : Nat} {d : DD} (h : L[j]? = some d) : seenF L (j + 1) = fun x => if x = aboutT d.op then jn (seenF L j (aboutT d.op)) d.t.deps else seenF L j x := by
  show (match L[j]? with | some d => _ | none => _) = _
  rw [h]
/-- What the rounds leave. -/
structure UnS (w w2 : World) (bm : Nat) (L : List DD) (j : Nat) (wr : World) : Prop where
  m : SeenM wr bm j (seenF L j)
  ck : Ck w2 wr
  gr : Gr w wr
theorem UnS.next {w w2 : World} {bm : Nat} {L : List DD} {j : Nat} {wr w' : World} (h : UnS w w2 bm L j wr) (g : Gr wr w') : UnS w w2 bm L j w' := ⟨h.m.gr g, h.ck.trans (Ck.of_gr g), h.gr.trans g⟩
theorem boxesUn (k : Int) (w : World) : ∃ W, W = ((w.alloc (.cells #[.int .i64 k] 3)).alloc (.map #[] 0)).alloc (.cells #[.map (some (w.heap.size + 1))] 231) ∧ Gr w W ∧
    SeenM W (w.heap.size + 1) 0 (fun _ _ => 0) ∧ W.cell? ⟨w.heap.size, 0, none⟩ = some (.int .i64 k) ∧ W.cell? ⟨w.heap.size + 2, 0, none⟩ = some (.map (some (w.heap.size + 1))) := by
  have e1 : (w.alloc (.cells #[.int .i64 k] 3)).heap.size = w.heap.size + 1 := by simp
  have h0 := SeenM.made (w.alloc (.cells #[.int .i64 k] 3))
  rw [e1] at h0
  refine ⟨_, rfl, (((Gr.refl w).alloc _).alloc _).alloc _, h0.gr ((Gr.refl _).alloc _), ?_, ?_⟩
  · have h1 : (((w.alloc (.cells #[.int .i64 k] 3)).alloc (.map #[] 0)).alloc (.cells #[.map (some (w.heap.size + 1))] 231)).heap[w.heap.size]? = some (.cells #[.int .i64 k] 3 (0, 0)) := by simp only [World.alloc, Array.getElem?_push, Array.size_push]; simp; all_goals omega
    rw [cell_of_block h1]; rfl
  · have h1 : (((w.alloc (.cells #[.int .i64 k] 3)).alloc (.map #[] 0)).alloc (.cells #[.map (some (w.heap.size + 1))] 231)).heap[w.heap.size + 2]? = some (.cells #[.map (some (w.heap.size + 1))] 231 (0, 0)) := by simp only [World.alloc, Array.getElem?_push, Array.size_push]; simp
    rw [cell_of_block h1]; rfl
set_option maxRecDepth 100000 in
set_option maxHeartbeats 4000000 in
theorem unseen_any (v : Value) (D : List DD) (kd sk : Int) (w : World) (h : DV w v D) (hx : DXs w D) (hlen : D.length ≤ 65536) (hel : ∀ d ∈ D, (aboutT d.op).size ≤ maxLen) :
    Calls Tryz.prog 183 #[v, .int .i64 kd, .int .i64 sk] w fun e w' => ∃ s, e = .returned s ∧ DV w' s ((kindF kd D).filter fun d => !unsD (seenF (kindF sk D) (kindF sk D).length) sk d) ∧ Gr w w' := by
  obtain ⟨W, hW, hg, hm, hb, ha⟩ := boxesUn sk w
  obtain ⟨A, c, hvf⟩ := dv_form h
  subst hvf
  have HDV := Lib.hid h
  have HXS := Lib.hid hx
  have HEL := Lib.hid hel
  have HLN := Lib.hid hlen
  have HG := Lib.hid hg
  have HM := Lib.hid hm
  have HB := Lib.hid hb
  have HA := Lib.hid ha
  obtain ⟨n, hn⟩ : ∃ n, n = D.length := ⟨_, rfl⟩
  have HOK := Lib.hid (fun k w1 (g : Gr w w1) => ofKind_any (.slice A D.length c) D k w1 (h.gr g) (hx.gr g) hlen)
  rw [← hn] at HOK ⊢
  clear h hx hel hlen hg hm hn
  have hmm := @run_makeMap Tryz.prog
  go_enter Tryz.func183, Tryz.ntmps183
  go_upto_region 2 with (fail)
  rw [← hW]
  clear hW hmm
  go_wp2_with fail
  refine (HOK.out sk W HG.out).mono ?_
  rintro e w2 ⟨s2, rfl, ho2, g2⟩
  obtain ⟨S, hS⟩ : ∃ S, S = kindF sk D := ⟨_, rfl⟩
  rw [← hS] at ho2
  have HSD := Lib.hid (fun d (hd : d ∈ S) => kindF_mem (show d ∈ kindF sk D by rw [← hS]; exact hd))
  have HS := Lib.hid hS
  have HV2 := Lib.hid ho2.dv
  obtain ⟨A2, c2, hs2⟩ := dv_form ho2.dv
  subst hs2
  have hSl : S.length ≤ 65536 := by
    rw [hS]
    have e := kindF_len sk D D.length
    rw [List.take_length] at e
    have := HLN.out
    omega
  obtain ⟨n2, hn2⟩ : ∃ n, n = S.length := ⟨_, rfl⟩
  have hn2b : n2 ≤ 65536 := by omega
  have HN2 := Lib.hid hn2
  rw [← hn2] at HV2 ⊢
  have HU2 : Hid (UnS w w2 (w.heap.size + 1) S 0 w2) := Lib.hid ⟨HM.out.gr g2, Ck.refl _, HG.out.trans g2⟩
  have HA2 := Lib.hid (g2.cell ha)
  have HB2 := Lib.hid (g2.cell hb)
  clear hS ho2 g2 hSl hn2 ha hb HA HB HM
  go_wp2_with fail
  go_loopw [16] (fun i wr => ∃ j : Nat, j ≤ n2 ∧ i = .int .i64 j ∧ Hid (UnS w w2 (w.heap.size + 1) S j wr)) (fun i _ => n2 - (intOf i).toNat)
  case atStart => exact ⟨0, Nat.zero_le _, rfl, HU2⟩
  case round =>
    obtain ⟨j, hj, rfl, hst⟩ := hrel
    rename World => wr
    by_cases hjn : j < n2
    · have hj0 : (0 : Int) ≤ (j : Int) := Int.natCast_nonneg _
      have hjn1 : (j : Int) < (n2 : Int) := by omega
      have hjl : j < S.length := by rw [← HN2.out]; exact hjn
      obtain ⟨A', c', hv', hcc, ⟨hcm, -⟩, hat⟩ := HV2.out.ck hst.out.ck
      injection hv' with e1 e2 e3
      subst e1 e3
      clear e2
      obtain ⟨b, off, hA, q0, q1⟩ := hat j hjl
      subst hA
      obtain ⟨d, hd⟩ : ∃ d, d = S[j] := ⟨_, rfl⟩
      rw [← hd] at q0 q1
      have hdS : d ∈ S := by rw [hd]; exact List.getElem_mem hjl
      have hdx : DX wr d := (HXS.out d (HSD.out d hdS)).gr hst.out.gr
      have hsz := HEL.out d (HSD.out d hdS)
      have HSF := Lib.hid (seenF_at (show S[j]? = some d by rw [List.getElem?_eq_getElem hjl, ← hd]))
      obtain ⟨W4, hW4, hg4, a0, a1⟩ := ddbox wr d
      have HU4 := Lib.hid (hst.out.next hg4)
      have HX4 := Lib.hid (hdx.gr hg4)
      have HOP := Lib.hid (dop_any d W4 HX4.out)
      have HAB := Lib.hid (fun w1 => about_any d.op w1)
      obtain ⟨s, hs⟩ : ∃ s, s = aboutT d.op := ⟨_, rfl⟩
      obtain ⟨o, ho⟩ : ∃ o, o = d.op := ⟨_, rfl⟩
      rw [← hs] at HAB HSF hsz
      rw [← ho] at HAB HOP
      have HSZ := Lib.hid hsz
      have HDS := Lib.hid hdS
      have HBX := Lib.hid (And.intro a0 a1)
      have HHC := Lib.hid (HX4.out.1)
      obtain ⟨db, hdb⟩ : ∃ x, x = d.b := ⟨_, rfl⟩
      obtain ⟨dk, hdk⟩ : ∃ x, x = d.o := ⟨_, rfl⟩
      obtain ⟨di, hdi⟩ : ∃ x, x = d.i := ⟨_, rfl⟩
      obtain ⟨t, ht⟩ : ∃ x, x = d.t := ⟨_, rfl⟩
      rw [← hdb, ← hdk, ← hdi] at HOP hW4 HBX
      rw [← hdb, ← hdk] at q0 HHC
      rw [← hdi] at q1
      rw [← ht] at HHC HSF
      have hc63 : c2 ≤ 9223372036854775807 := by unfold maxLen at hcm; omega
      clear hst hcc hcm hat hd hdS hdx hsz hg4 a0 a1 hs ho hdb hdk hdi ht
      go_upto_region 5 with (fail)
      rw [← hW4]
      clear hW4 q0 q1
      obtain ⟨a0, a1⟩ := HBX.out
      go_wp2_with fail
      refine HOP.out.mono ?_
      rintro e w5 ⟨rfl, g5⟩
      go_wp2_with fail
      refine (HAB.out _).mono ?_
      rintro e w6 ⟨rfl, g6⟩
      have HG6 := Lib.hid (g5.trans g6)
      clear g5 g6 a0 a1
      go_upto_region 6 with (fail)
      have HU6 := Lib.hid (HU4.out.next HG6.out)
      have HJA := Lib.hid (fun a w1 => join_any a t.deps w1)
      obtain ⟨F, hF⟩ : ∃ F, F = seenF S j := ⟨_, rfl⟩
      have HF := Lib.hid hF
      have HM6 := Lib.hid HU6.out.m
      rw [← hF] at HM6 HSF
      obtain ⟨cv, hcv⟩ : ∃ c, c = F s := ⟨_, rfl⟩
      obtain ⟨jc, hjc⟩ : ∃ c, c = jn cv t.deps := ⟨_, rfl⟩
      have HJ := Lib.hid (fun w1 => HJA.out cv w1)
      rw [← hjc] at HJ
      rw [← hcv, ← hjc] at HSF
      have HLK := Lib.hid (fun w1 (g : Gr w6 w1) => (HM6.out.gr g).lookup s HSZ.out)
      rw [← hcv] at HLK
      have HPA := Lib.hid (HU6.out.ck _ _ HA2.out)
      obtain ⟨vx, -, hfx⟩ := HHC.out
      have HFX := Lib.hid (hfx.gr HG6.out)
      have HB6 := Lib.hid (And.intro (HG6.out.cell HBX.out.1) (HG6.out.cell HBX.out.2))
      have hfd : ∀ w, (Instr.field 234 (.agg (vcells cv)) 0).run Tryz.prog w = .ok (.agg (vcells cv)) w := fun w => by show _ = _; kernel_rfl
      clear hF hcv hjc hfx HHC HBX HJA
      refine qTail 13 (fun w' => (w'.cell? ⟨w.heap.size + 2, 0, none⟩ = some (.map (some (w.heap.size + 1))) ∧ (Instr.lookup 231 (.map (some (w.heap.size + 1))) (.string s) false).run Tryz.prog w' = .ok (.agg (vcells cv)) w') ∧ w'.cell? ⟨wr.heap.size, 0, none⟩ = some (.pointer (some ⟨db, dk, none⟩)) ∧ XFix w' db dk t vx ∧ Gr w6 w') (by kernel_rfl) (by kernel_rfl) ⟨⟨(Gr.refl _).drew.cell HPA.out, HLK.out _ (Gr.refl _).drew⟩, (Gr.refl _).drew.cell HB6.out.1, HFX.out.gr (Gr.refl _).drew, (Gr.refl _).drew⟩ ?_
      simp only [List.take_succ_cons, List.take_zero, List.drop_succ_cons, List.drop_zero]
      iterate 11
        refine qTake (by kernel_rfl) ?_
        apply Exists.intro
        refine ⟨fun wq hq => ?_, ?_⟩
        · go_light
          obtain ⟨⟨pa0, hlk⟩, a0, ⟨x0, x1, x2, x3, x4, x5, x6, x7, x8, x9, x10, x11⟩, hg⟩ := hq
          go_simp
          try with_reducible rfl
          done
        try simp only [Act.put, List.setIfInBounds_toArray, List.set_cons_zero, List.set_cons_succ]
      refine qCall (by kernel_rfl) ?_
      apply Exists.intro
      refine ⟨?_, ?_⟩
      · apply Exists.intro
        apply Exists.intro
        refine ⟨fun wq => ?_, fun wq hq => ?_⟩
        · go_light
          go_simp
          exact ⟨rfl, rfl⟩
        · exact (HJ.out wq).mono fun e w'' ⟨he, hg⟩ => ⟨he, ⟨hg.cell hq.1.1, HLK.out _ (hq.2.2.2.trans hg)⟩, hg.cell hq.2.1, hq.2.2.1.gr hg, hq.2.2.2.trans hg⟩
      try simp only [Act.put, List.setIfInBounds_toArray, List.set_cons_zero, List.set_cons_succ]
      iterate 1
        refine qTake (by kernel_rfl) ?_
        apply Exists.intro
        refine ⟨fun wq hq => ?_, ?_⟩
        · go_light
          obtain ⟨⟨pa0, hlk⟩, a0, ⟨x0, x1, x2, x3, x4, x5, x6, x7, x8, x9, x10, x11⟩, hg⟩ := hq
          go_simp
          try with_reducible rfl
          done
        try simp only [Act.put, List.setIfInBounds_toArray, List.set_cons_zero, List.set_cons_succ]
      refine qNil ?_
      intro w7 hC
      have HM7 := Lib.hid (HM6.out.gr hC.2.2.2)
      have HU7 := Lib.hid (HU6.out.next hC.2.2.2)
      clear hC
      refine wpList_seen rfl (.tmp 23) (.tmp 24) (.tmp 35) rfl (w.heap.size + 1) j F rfl HM7.out (by unfold maxLen; omega) s HSZ.out jc rfl rfl ?_
      intro w8 hm8 hg8
      have HS8 : Hid (UnS w w2 (w.heap.size + 1) S (j + 1) w8) := Lib.hid ⟨by rw [HSF.out]; exact hm8, HU7.out.ck.trans (HM7.out.ck hg8), Kp.below ((Kp.of_gr HU7.out.gr).trans (show Kp (some (w.heap.size + 1)) w7 w8 from hg8)) (Nat.le_refl _) (fun g e => by injection e with e; omega)⟩
      clear hm8 hg8 hfd
      go_wp2_with fail
      go_roundw
      case measure => simp [intOf]; omega
      case rel => exact ⟨j + 1, by omega, by go_num, HS8⟩
    · obtain rfl : j = n2 := by omega
      have HU := Lib.hid hst.out
      have HPA := Lib.hid (hst.out.ck _ _ HA2.out)
      have HPB := Lib.hid (hst.out.ck _ _ HB2.out)
      clear hst
      go_wp2_with fail
      refine (HOK.out kd wr HU.out.gr).mono ?_
      rintro e w3 ⟨s3, rfl, ho3, g3⟩
      have HM3 := Lib.hid (HU.out.m.gr g3)
      have HG3 := Lib.hid (HU.out.gr.trans g3)
      have HPA3 := Lib.hid (g3.cell HPA.out)
      have HPB3 := Lib.hid (g3.cell HPB.out)
      have hmf : ∀ (fn : Fn) (first cap : Array Value) (w : World), (Instr.makeFunc fn first cap).run Tryz.prog w = .ok (.func fn first cap) w := fun _ _ _ _ => rfl
      have HQS : Hid (S.length = j) := Lib.hid HN2.out.symm
      have hpr : PrP wr.heap.size (w.heap.size + 1 + 1) w.heap.size (fun d => unsD (seenF S j) sk d) (fun w' => Gr wr w') (kindF kd D) := ⟨fun a b g h k hg => Kp.below ((Kp.of_gr h).trans k) (Nat.le_refl _) (fun g' e => by injection e with e; omega), fun a b h g => h.trans g, fun d hd w4 g4 => unseen1_any d (w.heap.size + 1 + 1) w.heap.size (w.heap.size + 1) j (seenF S j) sk w4 ((HXS.out d (kindF_mem hd)).gr (HU.out.gr.trans g4)) (HU.out.m.gr g4) (g4.cell HPA.out) (g4.cell HPB.out) (HEL.out d (kindF_mem hd))⟩
      have HDL := Lib.hid (delP_any s3 _ wr.heap.size _ _ _ _ w3 ho3 hpr g3)
      have HO3 := Lib.hid ho3
      have HGW := Lib.hid g3
      clear hpr ho3 g3 HM3 HPA3 HPB3
      go_wp2_with fail
      refine HDL.out.mono ?_
      rintro e w4 ⟨v4, rfl, ho4, -, k4⟩
      have HE : Hid (DV w4 v4 ((kindF kd D).filter fun d => !unsD (seenF (kindF sk D) (kindF sk D).length) sk d) ∧ Gr w w4) := Lib.hid ⟨by have h := ho4.dv; rw [← HQS.out, HS.out] at h; exact h, HU.out.gr.trans (gr_of_grown HGW.out HO3.out k4 HGW.out.size)⟩
      clear ho4 k4
      go_wp2_with fail
      go_ret
      exact ⟨_, rfl, HE.out⟩
end Go.Proofs.YtnjmgknicffcbaaGreatDoor
namespace Go.Proofs.YtnjmgknicffcbaaGreatDoor
open Go.RowKit Go.Joins
set_option linter.unusedSimpArgs false
set_option linter.unusedVariables false

/-- The deeds of a kind that none of the kind sk about the same sees. -/
def unsL (kd sk : Int) (D : List DD) : List DD := (kindF kd D).filter fun d => !unsD (seenF (kindF sk D) (kindF sk D).length) sk d
def onB (start : Int) (D : List DD) : Bool := decide (0 < (unsL 7 8 D).length) || (decide (¬ start = 0) && decide ((kindF 8 D).length = 0))
set_option maxRecDepth 100000 in
set_option maxHeartbeats 2000000 in
theorem on_any (start : Int) (v : Value) (D : List DD) (w : World) (h : DV w v D) (hx : DXs w D) (hlen : D.length ≤ 65536) (hel : ∀ d ∈ D, (aboutT d.op).size ≤ maxLen) :
    Calls Tryz.prog 186 #[.int .i64 start, v] w fun e w' => e = .returned (.bool (onB start D)) ∧ Gr w w' := by
  have HU := Lib.hid (unseen_any v D 7 8 w h hx hlen hel)
  have HO := Lib.hid (fun w1 (g : Gr w w1) => ofKind_any v D 8 w1 (h.gr g) (hx.gr g) hlen)
  obtain ⟨A, c, hvf⟩ := dv_form h
  subst hvf
  obtain ⟨n, hn⟩ : ∃ n, n = D.length := ⟨_, rfl⟩
  rw [← hn] at HU HO ⊢
  obtain ⟨r, hr⟩ : ∃ r, r = onB start D := ⟨_, rfl⟩
  rw [← hr]
  have HR := Lib.hid hr
  clear h hx hlen hel hn hr
  go_enter Tryz.func186, Tryz.ntmps186
  go_wp2_with fail
  refine HU.out.mono ?_
  rintro e w1 ⟨s1, rfl, hd1, g1⟩
  have hd1 : DV w1 s1 (unsL 7 8 D) := hd1
  obtain ⟨A1, c1, hs1⟩ := dv_form hd1
  subst hs1
  have HG1 := Lib.hid g1
  obtain ⟨m, hm⟩ : ∃ m, m = (unsL 7 8 D).length := ⟨_, rfl⟩
  rw [← hm]
  have HM := Lib.hid hm
  clear hd1 g1 hm
  by_cases hmp : 0 < m
  · have h1 : (0 : Int) < (m : Int) := by omega
    have h2 : decide ((0 : Int) < (m : Int)) = true := decide_eq_true h1
    have HE : Hid (r = true) := Lib.hid (by rw [HR.out]; unfold onB; rw [← HM.out, decide_eq_true hmp]; rfl)
    go_wp2_with fail
    go_ret
    exact ⟨by rw [HE.out]; rfl, HG1.out⟩
  · have h1 : ¬ (0 : Int) < (m : Int) := by omega
    have h2 : decide ((0 : Int) < (m : Int)) = false := decide_eq_false h1
    by_cases hst : start = 0
    · have HE : Hid (r = false) := Lib.hid (by rw [HR.out]; unfold onB; rw [← HM.out, decide_eq_false hmp, decide_eq_false (fun c => c hst)]; rfl)
      subst hst
      go_wp2_with fail
      go_ret
      exact ⟨by rw [HE.out]; rfl, HG1.out⟩
    · have h3 : decide (start = 0) = false := decide_eq_false hst
      have h4 : (start == 0) = false := beq_eq_false_iff_ne.2 hst
      have h5 : decide (¬ start = 0) = true := decide_eq_true hst
      go_wp2_with fail
      refine (HO.out _ HG1.out).mono ?_
      rintro e w2 ⟨s2, rfl, ho2, g2⟩
      obtain ⟨A2, c2, hs2⟩ := dv_form ho2.dv
      subst hs2
      have HG2 := Lib.hid (HG1.out.trans g2)
      obtain ⟨k, hk⟩ : ∃ k, k = (kindF 8 D).length := ⟨_, rfl⟩
      rw [← hk]
      have HE : Hid (r = decide (k = 0)) := Lib.hid (by rw [HR.out]; unfold onB; rw [← HM.out, decide_eq_false hmp, h5, ← hk]; rfl)
      clear ho2 g2 hk
      by_cases hk0 : k = 0
      · subst hk0
        have HE2 : Hid (r = true) := Lib.hid (by rw [HE.out]; exact decide_eq_true rfl)
        clear HE
        go_wp2_with fail
        go_ret
        exact ⟨by rw [HE2.out]; simp [hst], HG2.out⟩
      · have h6 : ¬ (k : Int) = 0 := by omega
        have h7 : decide ((k : Int) = 0) = false := decide_eq_false h6
        have HE2 : Hid (r = false) := Lib.hid (by rw [HE.out]; exact decide_eq_false hk0)
        clear HE
        go_wp2_with fail
        go_ret
        exact ⟨by rw [HE2.out]; simp [hst] <;> exact hk0, HG2.out⟩
end Go.Proofs.YtnjmgknicffcbaaGreatDoor
