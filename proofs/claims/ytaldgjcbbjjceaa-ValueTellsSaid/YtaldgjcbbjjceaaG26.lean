/- Texts LasV, ValD, joined. -/
import Derived.Test.YtaldgjcbbjjceaaG25
import Derived.Test.YtaldgjcbbjjceaaG15
import Derived.Test.YtaldgjcbbjjceaaG24
/- Walks: value's last. -/
namespace Go.Proofs.Ytaldgjcbbjjceaa
open Go.RowKit Go.Joins
set_option linter.unusedSimpArgs false
set_option linter.unusedVariables false

/-- The deed with the greatest stamp, of those the last one. -/
def topN (o : Option DD) (d : DD) : Option DD := match o with | none => some d | some t => if t.t.stamp ≤ d.t.stamp then some d else some t
theorem topN_yes {t d : DD} (h : t.t.stamp ≤ d.t.stamp) : topN (some t) d = some d := if_pos h
theorem topN_no {t d : DD} (h : ¬ t.t.stamp ≤ d.t.stamp) : topN (some t) d = some t := if_neg h
def topD (D : List DD) : Option DD := D.foldl topN none
theorem topD_next {D : List DD} {j : Nat} (h : j < D.length) : topD (D.take (j + 1)) = topN (topD (D.take j)) D[j] := by
  unfold topD
  rw [List.take_succ_eq_append_getElem h, List.foldl_append]
  rfl
theorem topD_mem : ∀ {D : List DD} {t : DD}, topD D = some t → t ∈ D := by
  have h : ∀ (D : List DD) (o : Option DD) {t : DD}, D.foldl topN o = some t → t ∈ D ∨ o = some t := by
    intro D
    induction D with
    | nil => intro o t h; exact .inr h
    | cons d r ih =>
      intro o t h
      rw [List.foldl_cons] at h
      rcases ih _ h with k | k
      · exact .inl (List.mem_cons_of_mem _ k)
      · unfold topN at k
        split at k
        · injection k with k; exact .inl (by rw [k]; simp)
        · split at k
          · injection k with k; exact .inl (by rw [k]; simp)
          · exact .inr k
  intro D t ht
  rcases h D none ht with k | k
  · exact k
  · cases k
/-- How the best one so far lies: none, or a row of one. -/
def TopV (w : World) (s : Value) (o : Option DD) : Prop :=
  match o with
  | none => s = .slice none 0 0
  | some t => ∃ b, s = .slice (some ⟨b, 0, none⟩) 1 1 ∧ DCell w b 0 t
theorem TopV.gr {w w' : World} {s : Value} {o : Option DD} (h : TopV w s o) (g : Gr w w') : TopV w' s o := by
  cases o with
  | none => exact h
  | some t => obtain ⟨b, h1, h2⟩ := h; exact ⟨b, h1, h2.gr g⟩
theorem TopV.dv {w : World} {s : Value} {o : Option DD} (h : TopV w s o) : DV w s o.toList := by
  cases o with
  | none => have h : s = _ := h; subst h; exact (DO.nil w 0).dv
  | some t =>
    obtain ⟨b, h1, h2⟩ := h
    subst h1
    refine ⟨some ⟨b, 0, none⟩, 1, rfl, Nat.le_refl _, ⟨by decide, fun h => by cases h⟩, fun j hj => ⟨b, 0, rfl, ?_⟩⟩
    have hj0 : j = 0 := by simpa using hj
    subst hj0
    exact h2
/-- A Last key's elements. -/
def lastL (D : List DD) : List ByteArray := elemsD (topD (kindF 6 D)).toList
theorem riseT_last (D : List DD) : riseT (elemsD (topD (kindF 6 D)).toList) = lastL D := by
  unfold lastL
  cases topD (kindF 6 D) <;> rfl
set_option maxRecDepth 100000 in
set_option maxHeartbeats 4000000 in
theorem lastV_any (v : Value) (D : List DD) (w : World) (h : DV w v D) (hx : DXs w D) (hlen : D.length ≤ 65536) (hs : ∀ d ∈ D, d.op.elem.size ≤ 281474976710656) :
    Calls Try.prog 61 #[v] w fun e w' => RetStrsV (lastL D) w e w' := by
  have HK := Lib.hid (ofKind_any v D 6 w h hx hlen)
  have HR := Lib.hid (fun (v1 : Value) (D1 : List DD) (w1 : World) (h1 : DV w1 v1 D1) (g : Gr w w1) (hsub : ∀ d ∈ D1, d ∈ D) (hl : D1.length ≤ 65536) => risingV_any v1 D1 w1 h1 (fun d hd => (hx d (hsub d hd)).gr g) hl (fun d hd => hs d (hsub d hd)))
  have HX := Lib.hid hx
  obtain ⟨A, c, hvf⟩ := dv_form h
  subst hvf
  obtain ⟨n0, hn0⟩ : ∃ n, n = D.length := ⟨_, rfl⟩
  rw [← hn0] at HK ⊢
  have HLR := Lib.hid (riseT_last D)
  obtain ⟨K, hK⟩ : ∃ K, K = kindF 6 D := ⟨_, rfl⟩
  rw [← hK] at HK HLR
  have HKM : Hid (∀ d ∈ K, d ∈ D) := Lib.hid (fun d hd => by rw [hK] at hd; exact kindF_mem hd)
  have HKL : Hid (K.length ≤ 65536) := Lib.hid (by rw [hK]; exact Nat.le_trans (kindF_le 6 D) hlen)
  clear h hx hlen hs hn0 hK
  go_enter Try.func61, Try.ntmps61
  go_wp2_with fail
  refine HK.out.mono ?_
  rintro e w2 ⟨s2, rfl, ho2, g2⟩
  obtain ⟨A2, c2, hs2⟩ := slice_dd ho2
  subst hs2
  obtain ⟨Ax, cx, hvx, -, -, hat⟩ := ho2.dv
  injection hvx with e1 e2 e3
  subst e1 e3
  have HAT : Hid (∀ j (hj : j < K.length), ∃ b off, A2 = some ⟨b, off, none⟩ ∧ DCell w2 b (off + j * 2) K[j]) := Lib.hid hat
  obtain ⟨n, hn⟩ : ∃ n, n = K.length := ⟨_, rfl⟩
  rw [← hn]
  have HN := Lib.hid hn
  have hnb : n ≤ 65536 := by have := HKL.out; omega
  have HG2 := Lib.hid g2
  clear ho2 e2 hat hn g2
  go_wp2_with fail
  go_loopw [3, 9] (fun s i wr => ∃ j : Nat, j ≤ n ∧ i = .int .i64 j ∧ Hid (TopV wr s (topD (K.take j)) ∧ Gr w2 wr)) (fun _ i _ => n - (intOf i).toNat)
  case atStart => exact ⟨0, Nat.zero_le _, rfl, Lib.hid ⟨rfl, Gr.refl _⟩⟩
  case round =>
    obtain ⟨j, hj, rfl, hst⟩ := hrel
    rename World => wr
    by_cases hjn : j < n
    · have hj0 : (0 : Int) ≤ (j : Int) := Int.natCast_nonneg _
      have hjn1 : (j : Int) < (n : Int) := by omega
      have hjl : j < K.length := by rw [← HN.out]; exact hjn
      obtain ⟨b, off, hA, hc0⟩ := HAT.out j hjl
      subst hA
      obtain ⟨d, hd⟩ : ∃ d, d = K[j] := ⟨_, rfl⟩
      rw [← hd] at hc0
      obtain ⟨c0, c1⟩ := hc0.gr hst.out.2
      have hdx : DX w d := HX.out d (HKM.out d (by rw [hd]; exact List.getElem_mem hjl))
      obtain ⟨W5, hW5, hg5, y0, y1⟩ := dbox wr d
      have hxd := hdx.gr ((HG2.out.trans hst.out.2).trans hg5)
      obtain ⟨⟨vd, -, -, -, xs2, -, -, -, -, -, -, -, -, -⟩, -⟩ := hxd
      have HNX := Lib.hid (topD_next hjl)
      rw [← hd] at HNX
      obtain ⟨o, ho⟩ : ∃ o, o = topD (K.take j) := ⟨_, rfl⟩
      rw [← ho] at HNX
      have htv := hst.out.1
      rw [← ho] at htv
      have HTM : Hid (∀ t, o = some t → DX W5 t) := Lib.hid (fun t ht => (HX.out t (HKM.out t (List.mem_of_mem_take (topD_mem (by rw [← ho]; exact ht))))).gr ((HG2.out.trans hst.out.2).trans hg5))
      obtain ⟨sd, hsd⟩ : ∃ x, x = d.t.stamp := ⟨_, rfl⟩
      rw [← hsd] at xs2
      have HD := Lib.hid hd
      have HSD := Lib.hid hsd
      obtain ⟨db, hdb⟩ : ∃ x, x = d.b := ⟨_, rfl⟩
      obtain ⟨dk, hdk⟩ : ∃ x, x = d.o := ⟨_, rfl⟩
      obtain ⟨di, hdi⟩ : ∃ x, x = d.i := ⟨_, rfl⟩
      rw [← hdb, ← hdk] at c0 y0 xs2
      rw [← hdi] at c1 y1
      rw [← hdb, ← hdk, ← hdi] at hW5
      have HG5 : Hid (Gr w2 W5) := Lib.hid (hst.out.2.trans hg5)
      have HG5b := Lib.hid hg5
      have HDD := Lib.hid (And.intro hdb (And.intro hdk hdi))
      clear hc0 hdx hst hd hsd hdb hdk hdi ho
      cases o with
      | none =>
        have htv : _ = Value.slice none 0 0 := htv
        subst htv
        have HN1 : Hid (topD (K.take (j + 1)) = some d) := Lib.hid HNX.out
        clear hg5
        go_upto_region 5 with (fail)
        rw [← hW5]
        clear hW5 c0 c1
        have HY := Lib.hid (And.intro y0 (And.intro y1 xs2))
        clear y0 y1 xs2
        refine qRegion (fun w' => w'.cell? ⟨wr.heap.size, 0, none⟩ = some (.pointer (some ⟨db, dk, none⟩)) ∧ w'.cell? ⟨wr.heap.size, 1, none⟩ = some (.int .i64 (di : Int)) ∧ Gr W5 w') (by kernel_rfl) (by kernel_rfl) ⟨(Gr.refl _).drew.cell HY.out.1, (Gr.refl _).drew.cell HY.out.2.1, (Gr.refl _).drew⟩ ?_
        iterate 4
          refine qTake (by kernel_rfl) ?_
          apply Exists.intro
          refine ⟨fun wq hq => ?_, ?_⟩
          · go_light
            obtain ⟨e0, e1, -⟩ := hq
            go_simp
            try with_reducible rfl
            done
          try simp only [Act.put, List.setIfInBounds_toArray, List.set_cons_zero, List.set_cons_succ]
        iterate 13
          refine qSkip (by kernel_rfl) ?_
          try simp only [Act.put, List.setIfInBounds_toArray, List.set_cons_zero, List.set_cons_succ]
        iterate 1
          refine qTake (by kernel_rfl) ?_
          apply Exists.intro
          refine ⟨fun wq hq => ?_, ?_⟩
          · go_light
            obtain ⟨e0, e1, -⟩ := hq
            go_simp
            try with_reducible rfl
            done
          try simp only [Act.put, List.setIfInBounds_toArray, List.set_cons_zero, List.set_cons_succ]
        refine qNil ?_
        intro w3 hC
        obtain ⟨y0, y1, hg3⟩ := hC
        have HG3 := Lib.hid hg3
        obtain ⟨W6, hW6, hg6, hD6⟩ : ∃ W6, W6 = w3.alloc (.cells #[.pointer (some ⟨db, dk, none⟩), .int .i64 (di : Int)] 96) ∧ Gr w3 W6 ∧ TopV W6 (.slice (some ⟨w3.heap.size, 0, none⟩) 1 1) (some d) := by
          refine ⟨_, rfl, (Gr.refl _).alloc _, w3.heap.size, rfl, ?_, ?_⟩
          · rw [World.cell?_alloc_mark]; rw [HDD.out.1, HDD.out.2.1]; rfl
          · rw [World.cell?_alloc_at _ _ _ _ rfl]; rw [HDD.out.2.2]; rfl
        have HE : Hid (TopV W6 (.slice (some ⟨w3.heap.size, 0, none⟩) 1 1) (topD (K.take (j + 1))) ∧ Gr w2 W6) := Lib.hid ⟨by rw [HN1.out]; exact hD6, (HG5.out.trans hg3).trans hg6⟩
        clear hg3 hg6 hD6
        go_upto_region 7 with (fail)
        rw [← hW6]
        clear hW6
        go_wp2_with fail
        go_roundw
        case measure => simp [intOf]; omega
        case rel => exact ⟨j + 1, by omega, by go_num, HE⟩
      | some t =>
        obtain ⟨tb, hs, ht0, ht1⟩ := htv
        subst hs
        have ht0 := hg5.cell ht0
        have hxt := HTM.out t rfl
        obtain ⟨⟨vt, -, -, -, xt2, -, -, -, -, -, -, -, -, -⟩, -⟩ := hxt
        have HT1 := Lib.hid (hg5.cell ht1)
        obtain ⟨st, hst⟩ : ∃ x, x = t.t.stamp := ⟨_, rfl⟩
        rw [← hst] at xt2
        have HST := Lib.hid hst
        have HTC : Hid (DCell W5 tb 0 t) := Lib.hid ⟨ht0, HT1.out⟩
        obtain ⟨tq, htq⟩ : ∃ x, x = t.b := ⟨_, rfl⟩
        obtain ⟨tk, htk⟩ : ∃ x, x = t.o := ⟨_, rfl⟩
        rw [← htq, ← htk] at ht0 xt2
        clear hst hg5 ht1 htq htk
        go_upto_region 5 with (fail)
        rw [← hW5]
        clear hW5 c0 c1
        have HY := Lib.hid (And.intro y0 (And.intro y1 (And.intro xs2 (And.intro ht0 xt2))))
        clear y0 y1 xs2 ht0 xt2
        refine qRegion (fun w' => w'.cell? ⟨wr.heap.size, 0, none⟩ = some (.pointer (some ⟨db, dk, none⟩)) ∧ w'.cell? ⟨wr.heap.size, 1, none⟩ = some (.int .i64 (di : Int)) ∧ w'.cell? ⟨db, dk + 2, none⟩ = some (.int .u64 (sd : Int)) ∧ w'.cell? ⟨tb, 0, none⟩ = some (.pointer (some ⟨tq, tk, none⟩)) ∧ w'.cell? ⟨tq, tk + 2, none⟩ = some (.int .u64 (st : Int)) ∧ Gr W5 w') (by kernel_rfl) (by kernel_rfl) ⟨(Gr.refl _).drew.cell HY.out.1, (Gr.refl _).drew.cell HY.out.2.1, (Gr.refl _).drew.cell HY.out.2.2.1, (Gr.refl _).drew.cell HY.out.2.2.2.1, (Gr.refl _).drew.cell HY.out.2.2.2.2, (Gr.refl _).drew⟩ ?_
        iterate 18
          refine qTake (by kernel_rfl) ?_
          apply Exists.intro
          refine ⟨fun wq hq => ?_, ?_⟩
          · go_light
            obtain ⟨e0, e1, e2, e3, e4, -⟩ := hq
            go_simp
            try with_reducible rfl
            done
          try simp only [Act.put, List.setIfInBounds_toArray, List.set_cons_zero, List.set_cons_succ]
        refine qNil ?_
        intro w3 hC
        obtain ⟨y0, y1, -, -, -, hg3⟩ := hC
        have HG3 := Lib.hid hg3
        by_cases hle : st ≤ sd
        · have hle1 : (st : Int) ≤ (sd : Int) := by omega
          have hle2 : decide ((st : Int) ≤ (sd : Int)) = true := decide_eq_true hle1
          have HN1 : Hid (topD (K.take (j + 1)) = some d) := Lib.hid (by rw [HNX.out]; exact topN_yes (by rw [← HST.out, ← HSD.out]; exact hle))
          obtain ⟨W6, hW6, hg6, hD6⟩ : ∃ W6, W6 = w3.alloc (.cells #[.pointer (some ⟨db, dk, none⟩), .int .i64 (di : Int)] 96) ∧ Gr w3 W6 ∧ TopV W6 (.slice (some ⟨w3.heap.size, 0, none⟩) 1 1) (some d) := by
            refine ⟨_, rfl, (Gr.refl _).alloc _, w3.heap.size, rfl, ?_, ?_⟩
            · rw [World.cell?_alloc_mark]; rw [HDD.out.1, HDD.out.2.1]; rfl
            · rw [World.cell?_alloc_at _ _ _ _ rfl]; rw [HDD.out.2.2]; rfl
          have HE : Hid (TopV W6 (.slice (some ⟨w3.heap.size, 0, none⟩) 1 1) (topD (K.take (j + 1))) ∧ Gr w2 W6) := Lib.hid ⟨by rw [HN1.out]; exact hD6, (HG5.out.trans hg3).trans hg6⟩
          clear hg3 hg6 hD6
          go_upto_region 7 with (fail)
          rw [← hW6]
          clear hW6
          go_wp2_with fail
          go_roundw
          case measure => simp [intOf]; omega
          case rel => exact ⟨j + 1, by omega, by go_num, HE⟩
        · have hle1 : ¬ (st : Int) ≤ (sd : Int) := by omega
          have hle2 : decide ((st : Int) ≤ (sd : Int)) = false := decide_eq_false hle1
          have HN1 : Hid (topD (K.take (j + 1)) = some t) := Lib.hid (by rw [HNX.out]; exact topN_no (by rw [← HST.out, ← HSD.out]; exact hle))
          have HE : Hid (TopV w3 (.slice (some ⟨tb, 0, none⟩) 1 1) (topD (K.take (j + 1))) ∧ Gr w2 w3) := Lib.hid ⟨by rw [HN1.out]; exact ⟨tb, rfl, HTC.out.gr hg3⟩, HG5.out.trans hg3⟩
          clear hg3
          go_wp2_with fail
          go_roundw
          case measure => simp [intOf]; omega
          case rel => exact ⟨j + 1, by omega, by go_num, HE⟩
    · obtain rfl : j = n := by omega
      have htv := hst.out.1
      rw [HN.out, List.take_length] at htv
      have hmem : ∀ d ∈ (topD K).toList, d ∈ D := fun d hd => HKM.out d (topD_mem (by simpa using hd))
      have hl : (topD K).toList.length ≤ 65536 := by
        cases topD K <;> simp
      have HRR := Lib.hid (HR.out _ _ wr htv.dv (HG2.out.trans hst.out.2) hmem hl)
      rw [HLR.out] at HRR
      have HG := Lib.hid (HG2.out.trans hst.out.2)
      obtain ⟨A5, c5, hs5⟩ := dv_form htv.dv
      subst hs5
      obtain ⟨m5, hm5⟩ : ∃ m, m = (topD K).toList.length := ⟨_, rfl⟩
      rw [← hm5] at HRR ⊢
      clear hst htv hmem hl hm5
      go_wp2_with fail
      refine HRR.out.mono ?_
      rintro e w6 ⟨v6, rfl, ho6, g6⟩
      have HO6 := Lib.hid ho6
      obtain ⟨A6, c6, hs6, -, -⟩ := own_form ho6
      subst hs6
      obtain ⟨m6, hm6⟩ : ∃ m, m = (lastL D).length := ⟨_, rfl⟩
      rw [← hm6] at HO6 ⊢
      clear ho6 hm6
      go_wp2_with fail
      go_ret
      exact ⟨_, rfl, HO6.out.le HG.out.size, HG.out.trans g6⟩
end Go.Proofs.Ytaldgjcbbjjceaa
/- Walks: the value of a counter at a closed cut of logs that may be; the law's awake. -/
namespace Go.Proofs.Ytaldgjcbbjjceaa
open Go.RowKit Go.Joins

abbrev valv (n : Int) : Array Value := #[.int .i64 n, .slice none 0 0, .bool false]
theorem valbox (w : World) : ∃ W, W = w.alloc (.cells (valv 0) 32) ∧ Gr w W ∧ W.heap[w.heap.size]? = some (.cells (valv 0) 32 (0, 0)) := ⟨_, rfl, (Gr.refl w).alloc _, heap_alloc _ _ _⟩
set_option maxRecDepth 100000 in
set_option maxHeartbeats 4000000 in
theorem valueOf1_any (start : Int) (v : Value) (D : List DD) (w : World) (h : DV w v D) (hx : DXs w D) (hlen : D.length ≤ 65536) (hb : wrap64 start = start) :
    Calls Try.prog 31 #[.int .i64 1, .int .i64 start, v] w fun e w' => e = .returned (.agg (valv (wrap64 (totD start D)))) ∧ Gr w w' := by
  obtain ⟨W, hW, hg, hz⟩ := valbox w
  have HT := Lib.hid (fun w1 (g : Gr W w1) => total_any start v D w1 ((h.gr hg).gr g) ((hx.gr hg).gr g) hlen hb)
  obtain ⟨A, c, rfl⟩ := dv_form h
  obtain ⟨n, hn⟩ : ∃ n, n = D.length := ⟨_, rfl⟩
  obtain ⟨x, hxx⟩ : ∃ x, x = wrap64 (totD start D) := ⟨_, rfl⟩
  rw [← hxx, ← hn] at HT
  rw [← hxx, ← hn]
  have HZ := Lib.hid hz
  have HG := Lib.hid hg
  clear h hx hlen hb hn hxx hg hz
  go_enter Try.func31, Try.ntmps31
  go_upto_region 1 with (fail)
  rw [← hW]
  clear hW
  go_wp2_with fail
  refine (HT.out _ (Gr.refl _)).mono ?_
  rintro e w2 ⟨rfl, g2⟩
  have hz2 := gr_obj g2 HZ.out
  have z0 : w2.cell? ⟨w.heap.size, 0, none⟩ = some (.int .i64 0) := by rw [cell_of_block hz2]; rfl
  have z1 : w2.cell? ⟨w.heap.size, 1, none⟩ = some (.slice none 0 0) := by rw [cell_of_block hz2]; rfl
  have z2 : w2.cell? ⟨w.heap.size, 2, none⟩ = some (.bool false) := by rw [cell_of_block hz2]; rfl
  have k0 := unfrozen_of_block hz2 0
  have k1 := unfrozen_of_block hz2 1
  have k2 := unfrozen_of_block hz2 2
  have HG2 := Lib.hid (HG.out.trans g2)
  clear g2 hz2
  go_wp2_with fail
  refine bodyPost_ret (v := .agg (valv x)) (by simp [results, Try.results31, go_sem, *]) rfl ⟨rfl, ?_⟩
  show Gr w (((w2.setCell _ _).setCell _ _).setCell _ _)
  exact ((HG2.out.setCell (Nat.le_refl _) _).setCell (Nat.le_refl _) _).setCell (Nat.le_refl _) _
/-- What a counter's operations add. -/
def opAt (t : TX) (i : Nat) : TO := t.ops.getD i ⟨0, ⟨#[]⟩, ⟨#[]⟩, 0⟩
def netO (x : TX × Nat) : Int := if (opAt x.1 x.2).kind = 1 then (opAt x.1 x.2).n else if (opAt x.1 x.2).kind = 2 then - (opAt x.1 x.2).n else 0
def netP (L : List (TX × Nat)) : Int := (L.map netO).sum
theorem netP_append (a b : List (TX × Nat)) : netP (a ++ b) = netP a + netP b := by unfold netP; rw [List.map_append, List.sum_append]
theorem sumD_take (D : List DD) : ∀ j, j ≤ D.length → sumD D j = ((D.take j).map fun d => d.op.n).sum
  | 0, _ => by simp [sumD]
  | j + 1, h => by
    rw [sumD_next (by omega), sumD_take D j (by omega), List.take_add_one, List.getElem?_eq_getElem (by omega), List.map_append, List.sum_append]
    simp
theorem sumD_all (D : List DD) : sumD D D.length = (D.map fun d => d.op.n).sum := by rw [sumD_take D _ (Nat.le_refl _), List.take_length]
theorem totD_net (start : Int) (D : List DD) : totD start D = start + netP (dsh D) := by
  unfold totD
  rw [sumD_all, sumD_all]
  have h : ∀ D : List DD, ((kindF 1 D).map fun d => d.op.n).sum - ((kindF 2 D).map fun d => d.op.n).sum = netP (dsh D) := by
    intro D
    induction D with
    | nil => rfl
    | cons d r ih =>
      have e : netP (dsh (d :: r)) = netO (d.t, d.i) + netP (dsh r) := by simp [netP, dsh]
      have eo : opAt d.t d.i = d.op := rfl
      rw [e, ← ih]
      unfold kindF netO
      rw [eo]
      by_cases h1 : d.op.kind = 1
      · have h2 : ¬ d.op.kind = 2 := by omega
        simp [h1]
        omega
      · by_cases h2 : d.op.kind = 2
        · simp [h2]
          omega
        · simp [h1, h2]
  have := h D
  omega
/-- What the operations on a key add at a cut. -/
def netV (key : ByteArray) (l : LG) (v : Nat → Nat) : Int := netP (dAll key l v 8)
theorem net_jm (key : ByteArray) (l : LG) (v x : Nat → Nat) : ∀ i, netP (dAll key l (jn v x) i) + netP (dAll key l (mt v x) i) = netP (dAll key l v i) + netP (dAll key l x i)
  | 0 => rfl
  | i + 1 => by
    have ih := net_jm key l v x i
    unfold dAll
    rw [netP_append, netP_append, netP_append, netP_append]
    have e1 : jn v x i = max (v i) (x i) := rfl
    have e2 : mt v x i = min (v i) (x i) := rfl
    rw [e1, e2]
    rcases Nat.le_total (v i) (x i) with h | h
    · rw [Nat.max_eq_right h, Nat.min_eq_left h]; omega
    · rw [Nat.max_eq_left h, Nat.min_eq_right h]; omega
theorem boxesVa (u : Nat → S3) (v : Nat → Nat) (w : World) : ∃ W, W = ((w.alloc (.cells (lcells u) 24)).alloc (.cells (vcells v) 27)).alloc (.cells (valv 0) 32) ∧ Gr w W ∧
    LBox W w.heap.size u ∧ VBox W (w.heap.size + 1) v ∧ W.heap[w.heap.size + 1 + 1]? = some (.cells (valv 0) 32 (0, 0)) := by
  obtain ⟨W, hW, hg, hs, hL, hV⟩ := boxesLV u v w
  rw [← hW]
  have h1 := heap_alloc W (valv 0) 32
  rw [hs] at h1
  exact ⟨_, rfl, hg.alloc _, hL.gr ((Gr.refl _).alloc _), hV.gr ((Gr.refl _).alloc _), h1⟩

set_option maxRecDepth 100000 in
set_option maxHeartbeats 4000000 in
theorem value1_any (start : Int) (u : Nat → S3) (l : LG) (v : Nat → Nat) (key : ByteArray) (w : World) (h : LV w u l) (hq : FitQ l) (hok : checkE l = 0) (hcl : closedP l v) (hb : wrap64 start = start) :
    Calls Try.prog 12 #[.int .i64 1, .int .i64 start, .agg (lcells u), .agg (vcells v), .string key] w fun e w' => e = .returned (.tuple #[.agg (valv (wrap64 (start + netV key l v))), .int .i64 0]) ∧ Gr w w' := by
  obtain ⟨W, hW, hg, hL, hV, hz⟩ := boxesVa u v w
  have hl := okL_iff.1 hok
  have hop : ∀ i t, i < 8 → t ∈ l i → t.ops.length ≤ 8 := fun i t hi ht => by
    obtain ⟨k, hk⟩ := List.mem_iff_getElem?.1 ht
    exact (hl.tx i k t hi hk).1.2.2.1
  have hvl : ∀ i, i < 8 → v i ≤ 1024 := fun i hi => Nat.le_trans (lq hcl.1 hi) (hl.len i hi)
  have HCK := Lib.hid (fun w1 (g : Gr W w1) => check9_any u l w1 ((h.gr hg).gr g) hq)
  rw [hok] at HCK
  have HCL := Lib.hid (fun w1 (g : Gr W w1) => closed_any u l v w1 ((h.gr hg).gr g))
  rw [closedB_iff.2 hcl] at HCL
  have HDS := Lib.hid (fun w1 (g : Gr W w1) => deeds_any u l v key w1 ((h.gr hg).gr g) hcl.1 hop hvl)
  have HDA := Lib.hid (dAll_len key l v hop hvl 8 (Nat.le_refl _))
  have HBD := Lib.hid hb
  obtain ⟨x, hx⟩ : ∃ x, x = wrap64 (start + netV key l v) := ⟨_, rfl⟩
  rw [← hx]
  have HX := Lib.hid hx
  have HL := Lib.hid hL
  have HV := Lib.hid hV
  have HZ := Lib.hid hz
  have HG := Lib.hid hg
  obtain ⟨l0, l1, l2, l3, l4, l5, l6, l7⟩ := hL.all
  clear hL hV hz hg h hq hok hcl hb hl hop hvl hx
  go_enter Try.func12, Try.ntmps12
  go_upto_region 1 with (fail)
  rw [← hW]
  clear hW
  go_wp2_with fail
  refine (HCK.out _ (Gr.refl _)).mono ?_
  rintro e w2 ⟨rfl, g2⟩
  have HG2 := Lib.hid g2
  clear g2 l0 l1 l2 l3 l4 l5 l6 l7
  obtain ⟨l0, l1, l2, l3, l4, l5, l6, l7⟩ := (HL.out.gr HG2.out).all
  obtain ⟨v0, v1, v2, v3, v4, v5, v6, v7⟩ := (HV.out.gr HG2.out).all
  go_wp2_with fail
  refine (HCL.out _ HG2.out).mono ?_
  rintro e w3 ⟨rfl, g3⟩
  have HG3 := Lib.hid (HG2.out.trans g3)
  clear g3 l0 l1 l2 l3 l4 l5 l6 l7 v0 v1 v2 v3 v4 v5 v6 v7
  obtain ⟨l0, l1, l2, l3, l4, l5, l6, l7⟩ := (HL.out.gr HG3.out).all
  obtain ⟨v0, v1, v2, v3, v4, v5, v6, v7⟩ := (HV.out.gr HG3.out).all
  go_wp2_with fail
  refine (HDS.out _ HG3.out).mono ?_
  rintro e w4 ⟨s, D, rfl, hd⟩
  have HG4 := Lib.hid (HG3.out.trans hd.gr)
  have hlen : D.length ≤ 65536 := by
    have e1 : D.length = (dsh D).length := (List.length_map _).symm
    rw [e1, hd.sh]
    have := HDA.out
    omega
  have HVO := Lib.hid (valueOf1_any start s D w4 hd.own.dv (hd.xs.gr hd.gr) hlen HBD.out)
  rw [totD_net, hd.sh] at HVO
  have HVO : Hid (Calls Try.prog 31 #[.int .i64 1, .int .i64 start, s] w4 fun e w' => e = .returned (.agg (valv x)) ∧ Gr w4 w') := Lib.hid (by rw [HX.out]; exact HVO.out)
  obtain ⟨A, c, rfl⟩ := slice_dd hd.own
  obtain ⟨n, hn⟩ : ∃ n, n = D.length := ⟨_, rfl⟩
  rw [← hn] at HVO ⊢
  clear hd hlen hn l0 l1 l2 l3 l4 l5 l6 l7 v0 v1 v2 v3 v4 v5 v6 v7
  go_wp2_with fail
  refine HVO.out.mono ?_
  rintro e w5 ⟨rfl, g5⟩
  have HG5 := Lib.hid (HG4.out.trans g5)
  have hz2 := gr_obj HG5.out HZ.out
  have z0 : w5.cell? ⟨w.heap.size + 1 + 1, 0, none⟩ = some (.int .i64 0) := by rw [cell_of_block hz2]; rfl
  have z1 : w5.cell? ⟨w.heap.size + 1 + 1, 1, none⟩ = some (.slice none 0 0) := by rw [cell_of_block hz2]; rfl
  have z2 : w5.cell? ⟨w.heap.size + 1 + 1, 2, none⟩ = some (.bool false) := by rw [cell_of_block hz2]; rfl
  have k0 := unfrozen_of_block hz2 0
  have k1 := unfrozen_of_block hz2 1
  have k2 := unfrozen_of_block hz2 2
  clear g5 hz2
  go_wp2_with fail
  refine bodyPost_ret (v := .tuple #[.agg (valv x), .int .i64 0]) (by simp [results, Try.results12, go_sem, *]) rfl ⟨rfl, ?_⟩
  show Gr w (((w5.setCell _ _).setCell _ _).setCell _ _)
  exact (((HG.out.trans HG5.out).setCell (by simp only []; omega) _).setCell (by simp only []; omega) _).setCell (by simp only []; omega) _
def u91 (b : Nat) : Nat → S3 := fun i => if i = 0 then ⟨some ⟨b, 0, none⟩, 1, 1⟩ else ⟨none, 0, 0⟩
theorem lv91 {w : World} {b : Nat} {v : Value} (hx : XFix w b 0 t91 v) (ho : TOV w v t91.ops) : LV w (u91 b) l91 := fun i hi => by
  unfold u91
  by_cases e : i = 0
  · subst e
    rw [if_pos rfl]
    refine ⟨some ⟨b, 0, none⟩, 1, rfl, by decide, ⟨by decide, fun e => by cases e⟩, fun j hj => ⟨b, 0, rfl, ?_⟩⟩
    have hj0 : j = 0 := by
      have : j < 1 := hj
      omega
    subst hj0
    exact ⟨v, ho, hx⟩
  · rw [if_neg e]
    have : l91 i = [] := by unfold l91 addL; rw [if_neg e]; rfl
    rw [this]
    exact XV.nil w
theorem chk91 : checkE l91 = 0 := by kernel_rfl
theorem cls91 : closedB l91 e91 = true := by kernel_rfl
theorem net91 : wrap64 (2 + netV ⟨#[97]⟩ l91 e91) = 7 := by kernel_rfl
theorem fitQ_91 : FitQ l91 := fun i t _ ht => by
  have e : t = t91 := by
    unfold l91 addL nilL at ht
    split at ht
    · simpa using ht
    · cases ht
  subst e
  exact ⟨by decide, fun o ho => by
    have : o = op9 := by simpa [t91] using ho
    subst this
    decide⟩
set_option maxRecDepth 100000 in
set_option maxHeartbeats 4000000 in
theorem awake10_any (w : World) : Calls Try.prog 10 #[] w fun e w' => e = .returned (.bool true) ∧ Gr w w' := by
  obtain ⟨W, hW, hg, ho⟩ := optov w
  obtain ⟨W1, hW1, hg1, hx1⟩ := xbox W t91 (.slice (some ⟨w.heap.size, 0, none⟩) 1 1)
  have hs : W.heap.size = w.heap.size + 1 := by rw [hW]; simp
  have hs1 : W1.heap.size = w.heap.size + 2 := by rw [hW1]; simp [hs]
  rw [hs] at hx1
  obtain ⟨W2, hW2, hg2, hb2⟩ : ∃ x, x = W1.alloc (.cells (lcells (u91 (w.heap.size + 1))) 24) ∧ Gr W1 x ∧ LBox x (w.heap.size + 2) (u91 (w.heap.size + 1)) := ⟨_, rfl, (Gr.refl _).alloc _, ⟨by rw [← hs1]; exact heap_alloc _ _ _⟩⟩
  have hlv := lv91 (hx1.gr hg2) ((ho.gr hg1).gr hg2)
  have HVA := Lib.hid (value1_any 2 (u91 (w.heap.size + 1)) l91 e91 ⟨#[97]⟩ W2 hlv fitQ_91 chk91 (closedB_iff.1 cls91) (by kernel_rfl))
  rw [net91] at HVA
  have HG := Lib.hid ((hg.trans hg1).trans hg2)
  obtain ⟨l0, l1, l2, l3, l4, l5, l6, l7⟩ := hb2.all
  clear hg hg1 ho hx1 hg2 hb2 hlv
  go_enter Try.func10, Try.ntmps10
  go_upto_region 2 with (fail)
  change Code.wp Try.prog _ _ _ (((w.alloc (.cells #[.int .i64 1, .string ⟨#[97]⟩, .string ⟨#[]⟩, .int .i64 5] 41)).alloc (.cells (tcs t91 (.slice (some ⟨w.heap.size, 0, none⟩) 1 1)) 44)).alloc (.cells (lcells (u91 (w.heap.size + 1))) 24))
  rw [← hW, ← hW1, ← hW2]
  clear hW hW1 hW2
  have HVA : Hid (Calls Try.prog 12 #[.int .i64 1, .int .i64 2, .agg (lcells (u91 (w.heap.size + 1))), .agg #[.int .u64 1, .int .u64 0, .int .u64 0, .int .u64 0, .int .u64 0, .int .u64 0, .int .u64 0, .int .u64 0], .string ⟨#[97]⟩] W2 fun e w' => e = .returned (.tuple #[.agg (valv 7), .int .i64 0]) ∧ Gr W2 w') := HVA
  obtain ⟨uu, huu⟩ : ∃ x, x = u91 (w.heap.size + 1) := ⟨_, rfl⟩
  rw [← huu] at l0 l1 l2 l3 l4 l5 l6 l7 HVA
  obtain ⟨b2, hb2⟩ : ∃ x, x = w.heap.size + 2 := ⟨_, rfl⟩
  clear huu
  go_wp2_with fail
  refine HVA.out.mono ?_
  rintro e w3 ⟨rfl, g3⟩
  have HG3 := Lib.hid (HG.out.trans g3)
  clear g3 l0 l1 l2 l3 l4 l5 l6 l7
  have hz : (w3.alloc (.cells (valv 0) 32)).heap[w3.heap.size]? = some (.cells (valv 0) 32 (0, 0)) := heap_alloc _ _ _
  have z0 : (w3.alloc (.cells (valv 0) 32)).cell? ⟨w3.heap.size, 0, none⟩ = some (.int .i64 0) := by rw [cell_of_block hz]; rfl
  have z1 : (w3.alloc (.cells (valv 0) 32)).cell? ⟨w3.heap.size, 1, none⟩ = some (.slice none 0 0) := by rw [cell_of_block hz]; rfl
  have z2 : (w3.alloc (.cells (valv 0) 32)).cell? ⟨w3.heap.size, 2, none⟩ = some (.bool false) := by rw [cell_of_block hz]; rfl
  have k0 := unfrozen_of_block hz 0
  have k1 := unfrozen_of_block hz 1
  have k2 := unfrozen_of_block hz 2
  go_upto_region 3 with (fail)
  clear z0 z1 z2 k0 k1 k2 hz
  obtain ⟨w4, hw4, hg4, hz4⟩ : ∃ x, x = w3.alloc (.cells (valv 7) 32) ∧ Gr w3 x ∧ x.heap[w3.heap.size]? = some (.cells (valv 7) 32 (0, 0)) := ⟨_, rfl, (Gr.refl _).alloc _, heap_alloc _ _ _⟩
  rw [← hw4]
  have y0 : w4.cell? ⟨w3.heap.size, 0, none⟩ = some (.int .i64 7) := by rw [cell_of_block hz4]; rfl
  have HG4 := Lib.hid (HG3.out.trans hg4)
  clear hw4 hg4 hz4
  go_wp2_with fail
  go_ret
  exact ⟨rfl, HG4.out⟩
end Go.Proofs.Ytaldgjcbbjjceaa
