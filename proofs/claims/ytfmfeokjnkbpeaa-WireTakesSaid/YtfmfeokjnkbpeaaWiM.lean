/- Walks: a packet taken, the document's. -/
import Derived.Test.YtfmfeokjnkbpeaaWiL
namespace Go.Proofs.Ytfmfeokjnkbpeaa.Wi
open Go.RowKit
set_option linter.unusedSimpArgs false

/-- What holds while a packet is taken. -/
abbrev TR (w : World) (b o hb : Nat) (v : Value) (nx : Int) (s : Nat → Int) (p : P) (w' : World) : Prop := NB w' hb v nx s ∧ PCell w' b o p ∧ NF w' (hb + 1) ∧ PF w' (hb + 1 + 1) ∧ Gr w w'
theorem TR.gr {w : World} {b o hb : Nat} {v : Value} {nx : Int} {s : Nat → Int} {p : P} {w1 w2 : World} (h : TR w b o hb v nx s p w1) (g : Gr w1 w2) : TR w b o hb v nx s p w2 := ⟨NB.gr h.1 g, PCell.gr h.2.1 g, NF.gr h.2.2.1 g, PF.gr h.2.2.2.1 g, Gr.trans h.2.2.2.2 g⟩
theorem TR.put10 {w : World} {b o hb : Nat} {v : Value} {nx : Int} {s : Nat → Int} {p : P} {w1 : World} (h : TR w b o hb v nx s p w1) (h1 : PCell w b o p) (h2 : w.heap.size ≤ hb) (c0 c1 c2 c3 c4 c5 c6 c7 c8 c9 : Value) : TR w b o hb v nx s p (put10 w1 (hb + 1) c0 c1 c2 c3 c4 c5 c6 c7 c8 c9) :=
  have g : Gr w (Wi.put10 w1 (hb + 1) c0 c1 c2 c3 c4 c5 c6 c7 c8 c9) := below_put10 h.2.2.2.2 (by omega) _ _ _ _ _ _ _ _ _ _
  ⟨NB.far10 h.1 (by omega) _ _ _ _ _ _ _ _ _ _, PCell.gr h1 g, NF.put10 h.2.2.1 _ _ _ _ _ _ _ _ _ _, PF.put10 h.2.2.2.1 _ _ _ _ _ _ _ _ _ _, g⟩
theorem TR.put4 {w : World} {b o hb : Nat} {v : Value} {nx : Int} {s : Nat → Int} {p : P} {w1 : World} (h : TR w b o hb v nx s p w1) (h1 : PCell w b o p) (h2 : w.heap.size ≤ hb) (c0 c1 c2 c3 : Value) : TR w b o hb v nx s p (put4 w1 (hb + 1 + 1) c0 c1 c2 c3) :=
  have g : Gr w (Wi.put4 w1 (hb + 1 + 1) c0 c1 c2 c3) := below_put4 h.2.2.2.2 (by omega) _ _ _ _
  ⟨NB.far4 h.1 (by omega) _ _ _ _, PCell.gr h1 g, NF.put4 h.2.2.1 _ _ _ _, PF.put4 h.2.2.2.1 _ _ _ _, g⟩

set_option maxRecDepth 100000 in
set_option maxHeartbeats 4000000 in
theorem rtake_neg (v : Value) (L : List P) (nx : Int) (s : Nat → Int) (k : Int) (hk : k < 0) (w : World) (hv : PV w v L) :
    Calls Try.prog 11 #[.agg (ncells v nx s), .int .i64 k] w fun e w' => RetTake [] 0 zs p0 40 w e w' := by
  obtain ⟨A, c, hva, hc1, ⟨hc2, -⟩, hPC⟩ := id hv
  unfold maxLen at hc2
  obtain ⟨n, hn⟩ : ∃ n, n = L.length := ⟨_, rfl⟩
  have HN := Lib.hid hn
  rw [← hn] at hva hc1
  subst hva
  obtain ⟨W, hW, hG, hB0, hF0, hB1, hF1, hB2, hF2, hz⟩ := boxesNNP (.slice A n c) nx s w
  have hd : decide (k < (0 : Int)) = true := decide_eq_true hk
  have HB1 := Lib.hid hB1
  have HF1 := Lib.hid hF1
  have HB2 := Lib.hid hB2
  have HF2 := Lib.hid hF2
  have HG := Lib.hid hG
  have HS : Hid (NB W.drew w.heap.size (.slice A n c) nx s ∧ Gr W W.drew) := Lib.hid ⟨hB0.gr (Gr.refl _).drew, (Gr.refl _).drew⟩
  clear hF0 hB0 hB1 hF1 hB2 hF2 hG hv hz hn hk hPC HN
  go_enter Try.func11, Try.ntmps11
  go_upto_region 1 with (fail)
  rw [← hW]
  clear hW
  refine qRegion (fun w' => NB w' w.heap.size (.slice A n c) nx s ∧ Gr W w') (by kernel_rfl) (by kernel_rfl) HS.out ?_
  iterate 3
    refine qTake (by kernel_rfl) ?_
    apply Exists.intro
    refine ⟨fun wq hq => ?_, ?_⟩
    · go_light
      obtain ⟨⟨h0, h1, h2, h3, h4, h5, h6, h7, h8, h9⟩, -⟩ := hq
      go_simp
      try with_reducible rfl
      done
    try simp only [Act.put, List.setIfInBounds_toArray, List.set_cons_zero, List.set_cons_succ]
  iterate 5
    refine qSkip (by kernel_rfl) ?_
    try simp only [Act.put, List.setIfInBounds_toArray, List.set_cons_zero, List.set_cons_succ]
  iterate 2
    refine qTake (by kernel_rfl) ?_
    apply Exists.intro
    refine ⟨fun wq hq => ?_, ?_⟩
    · go_light
      obtain ⟨⟨h0, h1, h2, h3, h4, h5, h6, h7, h8, h9⟩, -⟩ := hq
      go_simp
      try with_reducible rfl
      done
    try simp only [Act.put, List.setIfInBounds_toArray, List.set_cons_zero, List.set_cons_succ]
  iterate 8
    refine qSkip (by kernel_rfl) ?_
    try simp only [Act.put, List.setIfInBounds_toArray, List.set_cons_zero, List.set_cons_succ]
  iterate 1
    refine qTake (by kernel_rfl) ?_
    apply Exists.intro
    refine ⟨fun wq hq => ?_, ?_⟩
    · go_light
      obtain ⟨⟨h0, h1, h2, h3, h4, h5, h6, h7, h8, h9⟩, -⟩ := hq
      go_simp
      try with_reducible rfl
      done
    try simp only [Act.put, List.setIfInBounds_toArray, List.set_cons_zero, List.set_cons_succ]
  refine qNil ?_
  intro w3 hC
  obtain ⟨b0, b1, b2, b3, b4, b5, b6, b7, b8, b9⟩ := HB1.out.gr hC.2
  obtain ⟨-, y0, y1, y2, y3, y4, y5, y6, y7, y8, y9⟩ := HF1.out.gr hC.2
  obtain ⟨d0, d1, d2, d3⟩ := HB2.out.gr hC.2
  obtain ⟨-, z0, z1, z2, z3⟩ := HF2.out.gr hC.2
  have HG3 := Lib.hid (HG.out.trans hC.2)
  clear hC
  go_wp2
  refine bodyPost_ret (v := .tuple #[.agg (ncells (.slice none 0 0) 0 zs), .agg (pcells p0), .int .i64 40]) (by simp [results, Try.results11, go_sem, zs, p0, b0, b1, b2, b3, b4, b5, b6, b7, b8, b9, d0, d1, d2, d3]) rfl ⟨_, rfl, PO.nil _ _, ?_⟩
  exact below_put4 (below_put10 HG3.out (Nat.le_succ _) _ _ _ _ _ _ _ _ _ _) (show w.heap.size ≤ w.heap.size + 1 + 1 by omega) _ _ _ _

set_option maxRecDepth 100000 in
set_option maxHeartbeats 4000000 in
theorem rtake_far (v : Value) (L : List P) (nx : Int) (s : Nat → Int) (k : Int) (hk : 0 ≤ k ∧ (L.length : Int) ≤ k) (w : World) (hv : PV w v L) :
    Calls Try.prog 11 #[.agg (ncells v nx s), .int .i64 k] w fun e w' => RetTake [] 0 zs p0 40 w e w' := by
  obtain ⟨A, c, hva, hc1, ⟨hc2, -⟩, hPC⟩ := id hv
  unfold maxLen at hc2
  obtain ⟨n, hn⟩ : ∃ n, n = L.length := ⟨_, rfl⟩
  have HN := Lib.hid hn
  rw [← hn] at hva hk hc1
  subst hva
  obtain ⟨W, hW, hG, hB0, hF0, hB1, hF1, hB2, hF2, hz⟩ := boxesNNP (.slice A n c) nx s w
  have hd : decide (k < (0 : Int)) = false := decide_eq_false (by omega)
  have hd2 : decide ((n : Int) ≤ k) = true := decide_eq_true hk.2
  have hge := hk.2
  have hlt : ¬ k < (0 : Int) := by omega
  have HB1 := Lib.hid hB1
  have HF1 := Lib.hid hF1
  have HB2 := Lib.hid hB2
  have HF2 := Lib.hid hF2
  have HG := Lib.hid hG
  have HS : Hid (NB W.drew w.heap.size (.slice A n c) nx s ∧ Gr W W.drew) := Lib.hid ⟨hB0.gr (Gr.refl _).drew, (Gr.refl _).drew⟩
  clear hF0 hB0 hB1 hF1 hB2 hF2 hG hv hz hn hk hPC HN
  go_enter Try.func11, Try.ntmps11
  go_upto_region 1 with (fail)
  rw [← hW]
  clear hW
  refine qRegion (fun w' => NB w' w.heap.size (.slice A n c) nx s ∧ Gr W w') (by kernel_rfl) (by kernel_rfl) HS.out ?_
  iterate 10
    refine qTake (by kernel_rfl) ?_
    apply Exists.intro
    refine ⟨fun wq hq => ?_, ?_⟩
    · go_light
      obtain ⟨⟨h0, h1, h2, h3, h4, h5, h6, h7, h8, h9⟩, -⟩ := hq
      go_simp
      try with_reducible rfl
      done
    try simp only [Act.put, List.setIfInBounds_toArray, List.set_cons_zero, List.set_cons_succ]
  iterate 8
    refine qSkip (by kernel_rfl) ?_
    try simp only [Act.put, List.setIfInBounds_toArray, List.set_cons_zero, List.set_cons_succ]
  iterate 1
    refine qTake (by kernel_rfl) ?_
    apply Exists.intro
    refine ⟨fun wq hq => ?_, ?_⟩
    · go_light
      obtain ⟨⟨h0, h1, h2, h3, h4, h5, h6, h7, h8, h9⟩, -⟩ := hq
      go_simp
      try with_reducible rfl
      done
    try simp only [Act.put, List.setIfInBounds_toArray, List.set_cons_zero, List.set_cons_succ]
  refine qNil ?_
  intro w3 hC
  obtain ⟨b0, b1, b2, b3, b4, b5, b6, b7, b8, b9⟩ := HB1.out.gr hC.2
  obtain ⟨-, y0, y1, y2, y3, y4, y5, y6, y7, y8, y9⟩ := HF1.out.gr hC.2
  obtain ⟨d0, d1, d2, d3⟩ := HB2.out.gr hC.2
  obtain ⟨-, z0, z1, z2, z3⟩ := HF2.out.gr hC.2
  have HG3 := Lib.hid (HG.out.trans hC.2)
  clear hC
  go_wp2
  refine bodyPost_ret (v := .tuple #[.agg (ncells (.slice none 0 0) 0 zs), .agg (pcells p0), .int .i64 40]) (by simp [results, Try.results11, go_sem, zs, p0, b0, b1, b2, b3, b4, b5, b6, b7, b8, b9, d0, d1, d2, d3]) rfl ⟨_, rfl, PO.nil _ _, ?_⟩
  exact below_put4 (below_put10 HG3.out (Nat.le_succ _) _ _ _ _ _ _ _ _ _ _) (show w.heap.size ≤ w.heap.size + 1 + 1 by omega) _ _ _ _

set_option maxRecDepth 100000 in
set_option maxHeartbeats 4000000 in
theorem rtake_off (v : Value) (L : List P) (nx : Int) (s : Nat → Int) (k : Nat) (hk : k < L.length) (ht : thr s L[k] = false) (w : World) (hv : PV w v L) :
    Calls Try.prog 11 #[.agg (ncells v nx s), .int .i64 k] w fun e w' => RetTake [] 0 zs p0 40 w e w' := by
  obtain ⟨A, c, hva, hc1, ⟨hc2, -⟩, hPC⟩ := id hv
  unfold maxLen at hc2
  obtain ⟨n, hn⟩ : ∃ n, n = L.length := ⟨_, rfl⟩
  have HN := Lib.hid hn
  obtain ⟨p, hp⟩ : ∃ p, p = L[k] := ⟨_, rfl⟩
  obtain ⟨b, off, rfl, hc⟩ := hPC k hk
  rw [← hp] at hc ht
  rw [← hn] at hva hc1
  have hkn : k < n := by omega
  subst hva
  obtain ⟨W, hW, hG, hB0, hF0, hB1, hF1, hB2, hF2, hz⟩ := boxesNNP (.slice (some ⟨b, off, none⟩) n c) nx s w
  have HP := Lib.hid (fun w => passes_any (.slice (some ⟨b, off, none⟩) n c) nx s p w)
  rw [ht] at HP
  have HB1 := Lib.hid hB1
  have HF1 := Lib.hid hF1
  have HB2 := Lib.hid hB2
  have HF2 := Lib.hid hF2
  have HG := Lib.hid hG
  have HS : Hid (NB W.drew w.heap.size (.slice (some ⟨b, off, none⟩) n c) nx s ∧ PCell W.drew b (off + k * 4) p ∧ Gr W W.drew) := Lib.hid ⟨hB0.gr (Gr.refl _).drew, (hc.gr hG).gr (Gr.refl _).drew, (Gr.refl _).drew⟩
  have hk0 : (0 : Int) ≤ (k : Int) := Int.natCast_nonneg _
  have hk1 : (k : Int) < (n : Int) := by omega
  have hlt : ¬ (k : Int) < 0 := by omega
  have hge : ¬ (n : Int) ≤ (k : Int) := by omega
  have hd : decide ((k : Int) < 0) = false := decide_eq_false hlt
  have hd2 : decide ((n : Int) ≤ (k : Int)) = false := decide_eq_false hge
  clear hF0 hB0 hB1 hF1 hB2 hF2 hG hv hz hn hk hkn hPC HN hc ht hp
  go_enter Try.func11, Try.ntmps11
  go_upto_region 1 with (fail)
  rw [← hW]
  clear hW
  refine qRegion (fun w' => NB w' w.heap.size (.slice (some ⟨b, off, none⟩) n c) nx s ∧ PCell w' b (off + k * 4) p ∧ Gr W w') (by kernel_rfl) (by kernel_rfl) HS.out ?_
  iterate 16
    refine qTake (by kernel_rfl) ?_
    apply Exists.intro
    refine ⟨fun wq hq => ?_, ?_⟩
    · go_light
      obtain ⟨⟨h0, h1, h2, h3, h4, h5, h6, h7, h8, h9⟩, ⟨q0, q1, q2, q3⟩, -⟩ := hq
      go_simp
      try with_reducible rfl
      done
    try simp only [Act.put, List.setIfInBounds_toArray, List.set_cons_zero, List.set_cons_succ]
  refine qCall (by kernel_rfl) ?_
  apply Exists.intro
  refine ⟨?_, ?_⟩
  · apply Exists.intro
    apply Exists.intro
    refine ⟨fun wq => ?_, fun wq hq => ?_⟩
    · go_light
      go_simp
      exact ⟨rfl, rfl⟩
    · exact (HP.out wq).mono fun e w2 h => ⟨h.1, hq.1.gr h.2, hq.2.1.gr h.2, hq.2.2.trans h.2⟩
  try simp only [Act.put, List.setIfInBounds_toArray, List.set_cons_zero, List.set_cons_succ]
  iterate 2
    refine qTake (by kernel_rfl) ?_
    apply Exists.intro
    refine ⟨fun wq hq => ?_, ?_⟩
    · go_light
      obtain ⟨⟨h0, h1, h2, h3, h4, h5, h6, h7, h8, h9⟩, ⟨q0, q1, q2, q3⟩, -⟩ := hq
      go_simp
      try with_reducible rfl
      done
    try simp only [Act.put, List.setIfInBounds_toArray, List.set_cons_zero, List.set_cons_succ]
  refine qNil ?_
  intro w3 hC
  obtain ⟨b0, b1, b2, b3, b4, b5, b6, b7, b8, b9⟩ := HB1.out.gr hC.2.2
  obtain ⟨-, y0, y1, y2, y3, y4, y5, y6, y7, y8, y9⟩ := HF1.out.gr hC.2.2
  obtain ⟨d0, d1, d2, d3⟩ := HB2.out.gr hC.2.2
  obtain ⟨-, z0, z1, z2, z3⟩ := HF2.out.gr hC.2.2
  have HG3 := Lib.hid (HG.out.trans hC.2.2)
  clear hC
  go_wp2
  refine bodyPost_ret (v := .tuple #[.agg (ncells (.slice none 0 0) 0 zs), .agg (pcells p0), .int .i64 40]) (by simp [results, Try.results11, go_sem, zs, p0, b0, b1, b2, b3, b4, b5, b6, b7, b8, b9, d0, d1, d2, d3]) rfl ⟨_, rfl, PO.nil _ _, ?_⟩
  exact below_put4 (below_put10 HG3.out (Nat.le_succ _) _ _ _ _ _ _ _ _ _ _) (show w.heap.size ≤ w.heap.size + 1 + 1 by omega) _ _ _ _

set_option maxRecDepth 100000 in
set_option maxHeartbeats 4000000 in
theorem rtake_yes (v : Value) (L : List P) (nx : Int) (s : Nat → Int) (k : Nat) (hk : k < L.length) (ht : thr s L[k] = true) (w : World) (hv : PV w v L) (hlen : L.length * 40 ≤ 140737488355328) :
    Calls Try.prog 11 #[.agg (ncells v nx s), .int .i64 k] w fun e w' => RetTake (less L k) nx s L[k] 0 w e w' := by
  obtain ⟨A, c, hva, hc1, ⟨hc2, -⟩, hPC⟩ := id hv
  unfold maxLen at hc2
  obtain ⟨n, hn⟩ : ∃ n, n = L.length := ⟨_, rfl⟩
  have HN := Lib.hid hn
  obtain ⟨p, hp⟩ : ∃ p, p = L[k] := ⟨_, rfl⟩
  obtain ⟨b, off, rfl, hc⟩ := hPC k hk
  rw [← hp] at hc ht ⊢
  rw [← hn] at hva hc1
  have hkn : k < n := by omega
  subst hva
  obtain ⟨W, hW, hG, hB0, hF0, hB1, hF1, hB2, hF2, hz⟩ := boxesNNP (.slice (some ⟨b, off, none⟩) n c) nx s w
  have HP := Lib.hid (fun w => passes_any (.slice (some ⟨b, off, none⟩) n c) nx s p w)
  rw [ht] at HP
  have HW := Lib.hid (fun W2 (q : Gr w W2) => rwithout_any (.slice (some ⟨b, off, none⟩) n c) L nx s k hk W2 (hv.gr q) hlen)
  have HCW := Lib.hid hc
  have HZ := Lib.hid hz
  have HF0 := Lib.hid hF0
  have HB1 := Lib.hid hB1
  have HF1 := Lib.hid hF1
  have HB2 := Lib.hid hB2
  have HF2 := Lib.hid hF2
  have HG := Lib.hid hG
  have HS : Hid (NB W.drew w.heap.size (.slice (some ⟨b, off, none⟩) n c) nx s ∧ PCell W.drew b (off + k * 4) p ∧ Gr W W.drew) := Lib.hid ⟨hB0.gr (Gr.refl _).drew, (hc.gr hG).gr (Gr.refl _).drew, (Gr.refl _).drew⟩
  have hk0 : (0 : Int) ≤ (k : Int) := Int.natCast_nonneg _
  have hk1 : (k : Int) < (n : Int) := by omega
  have hlt : ¬ (k : Int) < 0 := by omega
  have hge : ¬ (n : Int) ≤ (k : Int) := by omega
  have hd : decide ((k : Int) < 0) = false := decide_eq_false hlt
  have hd2 : decide ((n : Int) ≤ (k : Int)) = false := decide_eq_false hge
  clear hF0 hB0 hB1 hF1 hB2 hF2 hG hv hz hn hk hkn hPC HN hc ht hp hlen
  go_enter Try.func11, Try.ntmps11
  go_upto_region 1 with (fail)
  rw [← hW]
  clear hW
  refine qRegion (fun w' => NB w' w.heap.size (.slice (some ⟨b, off, none⟩) n c) nx s ∧ PCell w' b (off + k * 4) p ∧ Gr W w') (by kernel_rfl) (by kernel_rfl) HS.out ?_
  iterate 16
    refine qTake (by kernel_rfl) ?_
    apply Exists.intro
    refine ⟨fun wq hq => ?_, ?_⟩
    · go_light
      obtain ⟨⟨h0, h1, h2, h3, h4, h5, h6, h7, h8, h9⟩, ⟨q0, q1, q2, q3⟩, -⟩ := hq
      go_simp
      try with_reducible rfl
      done
    try simp only [Act.put, List.setIfInBounds_toArray, List.set_cons_zero, List.set_cons_succ]
  refine qCall (by kernel_rfl) ?_
  apply Exists.intro
  refine ⟨?_, ?_⟩
  · apply Exists.intro
    apply Exists.intro
    refine ⟨fun wq => ?_, fun wq hq => ?_⟩
    · go_light
      go_simp
      exact ⟨rfl, rfl⟩
    · exact (HP.out wq).mono fun e w2 h => ⟨h.1, hq.1.gr h.2, hq.2.1.gr h.2, hq.2.2.trans h.2⟩
  try simp only [Act.put, List.setIfInBounds_toArray, List.set_cons_zero, List.set_cons_succ]
  iterate 2
    refine qTake (by kernel_rfl) ?_
    apply Exists.intro
    refine ⟨fun wq hq => ?_, ?_⟩
    · go_light
      obtain ⟨⟨h0, h1, h2, h3, h4, h5, h6, h7, h8, h9⟩, ⟨q0, q1, q2, q3⟩, -⟩ := hq
      go_simp
      try with_reducible rfl
      done
    try simp only [Act.put, List.setIfInBounds_toArray, List.set_cons_zero, List.set_cons_succ]
  refine qNil ?_
  intro w3 hC
  have HTR : Hid (TR w b (off + k * 4) w.heap.size (.slice (some ⟨b, off, none⟩) n c) nx s p w3) := Lib.hid ⟨hC.1, hC.2.1, NF.gr HF1.out hC.2.2, PF.gr HF2.out hC.2.2, HG.out.trans hC.2.2⟩
  have HNB1 := Lib.hid (HB1.out.gr hC.2.2)
  have HPB2 := Lib.hid (HB2.out.gr hC.2.2)
  have HZ6 : Hid (w.heap.size + 1 + 1 + 1 ≤ w3.heap.size) := Lib.hid (by have := hC.2.2.size; have := HZ.out; omega)
  clear hC HS HB1 HB2 HF1 HF2
  go_upto_region 3 with (fail)
  refine wp_region_noPanic ?_
  refine wp_region_held_drew (S := fun w' => TR w b (off + k * 4) w.heap.size (.slice (some ⟨b, off, none⟩) n c) nx s p w') (by kernel_rfl) (TR.gr HTR.out (Gr.refl _).drew) (fun hHeld => ?_)
  refine hTake (i := 0) rfl (by kernel_rfl) (by kernel_rfl) (by kernel_rfl) (by kernel_rfl) (by assumption) ?_
  apply Exists.intro
  refine ⟨fun _ _ _ h => h, fun wq hq => ?_, ?_⟩
  · go_light
    obtain ⟨⟨h0, h1, h2, h3, h4, h5, h6, h7, h8, h9⟩, ⟨q0, q1, q2, q3⟩, -⟩ := hq
    go_simp
    try with_reducible rfl
    done
  try simp only [Act.put, List.setIfInBounds_toArray, List.set_cons_zero, List.set_cons_succ]
  refine hTake (i := 1) rfl (by kernel_rfl) (by kernel_rfl) (by kernel_rfl) (by kernel_rfl) (by assumption) ?_
  apply Exists.intro
  refine ⟨fun _ _ _ h => h, fun wq hq => ?_, ?_⟩
  · go_light
    obtain ⟨⟨h0, h1, h2, h3, h4, h5, h6, h7, h8, h9⟩, ⟨q0, q1, q2, q3⟩, -⟩ := hq
    go_simp
    try with_reducible rfl
    done
  try simp only [Act.put, List.setIfInBounds_toArray, List.set_cons_zero, List.set_cons_succ]
  refine hTake (i := 3) rfl (by kernel_rfl) (by kernel_rfl) (by kernel_rfl) (by kernel_rfl) (by assumption) ?_
  apply Exists.intro
  refine ⟨fun _ _ _ h => h, fun wq hq => ?_, ?_⟩
  · go_light
    obtain ⟨⟨h0, h1, h2, h3, h4, h5, h6, h7, h8, h9⟩, ⟨q0, q1, q2, q3⟩, -⟩ := hq
    go_simp
    try with_reducible rfl
    done
  try simp only [Act.put, List.setIfInBounds_toArray, List.set_cons_zero, List.set_cons_succ]
  refine hTake (i := 4) rfl (by kernel_rfl) (by kernel_rfl) (by kernel_rfl) (by kernel_rfl) (by assumption) ?_
  apply Exists.intro
  refine ⟨fun _ _ _ h => h, fun wq hq => ?_, ?_⟩
  · go_light
    obtain ⟨⟨h0, h1, h2, h3, h4, h5, h6, h7, h8, h9⟩, ⟨q0, q1, q2, q3⟩, -⟩ := hq
    go_simp
    try with_reducible rfl
    done
  try simp only [Act.put, List.setIfInBounds_toArray, List.set_cons_zero, List.set_cons_succ]
  refine hTake (i := 5) rfl (by kernel_rfl) (by kernel_rfl) (by kernel_rfl) (by kernel_rfl) (by assumption) ?_
  apply Exists.intro
  refine ⟨fun _ _ _ h => h, fun wq hq => ?_, ?_⟩
  · go_light
    obtain ⟨⟨h0, h1, h2, h3, h4, h5, h6, h7, h8, h9⟩, ⟨q0, q1, q2, q3⟩, -⟩ := hq
    go_simp
    try with_reducible rfl
    done
  try simp only [Act.put, List.setIfInBounds_toArray, List.set_cons_zero, List.set_cons_succ]
  refine hTake (i := 6) rfl (by kernel_rfl) (by kernel_rfl) (by kernel_rfl) (by kernel_rfl) (by assumption) ?_
  apply Exists.intro
  refine ⟨fun _ _ _ h => h, fun wq hq => ?_, ?_⟩
  · go_light
    obtain ⟨⟨h0, h1, h2, h3, h4, h5, h6, h7, h8, h9⟩, ⟨q0, q1, q2, q3⟩, -⟩ := hq
    go_simp
    try with_reducible rfl
    done
  try simp only [Act.put, List.setIfInBounds_toArray, List.set_cons_zero, List.set_cons_succ]
  refine hTake (i := 7) rfl (by kernel_rfl) (by kernel_rfl) (by kernel_rfl) (by kernel_rfl) (by assumption) ?_
  apply Exists.intro
  refine ⟨fun _ _ _ h => h, fun wq hq => ?_, ?_⟩
  · go_light
    obtain ⟨⟨h0, h1, h2, h3, h4, h5, h6, h7, h8, h9⟩, ⟨q0, q1, q2, q3⟩, -⟩ := hq
    go_simp
    try with_reducible rfl
    done
  try simp only [Act.put, List.setIfInBounds_toArray, List.set_cons_zero, List.set_cons_succ]
  refine wpAnyH_ready (rs := [2]) (by kernel_rfl) (by simp) ?_
  refine AllReadyH.cons rfl (fun K hK => ?_) AllReadyH.nil
  go_simp
  refine (HW.out _ hHeld.2.2.2.2).mono ?_
  rintro e w7 ⟨v7, rfl, hown7, hb⟩
  obtain ⟨A7, c7, hv7, -, -⟩ := hown7.form
  obtain ⟨n7, hn7⟩ : ∃ m, m = (less L k).length := ⟨_, rfl⟩
  rw [← hn7] at hv7
  subst hv7
  clear hn7
  go_wp2_with fail
  refine hK.out _ _ (TR.gr hHeld hb) (fun hHeld7 => ?_)
  clear hK K
  try simp only [Act.put, List.setIfInBounds_toArray, List.set_cons_zero, List.set_cons_succ]
  refine wpAnyH_ready (rs := [8]) (by kernel_rfl) (by simp) ?_
  refine AllReadyH.cons rfl (fun K hK => ?_) AllReadyH.nil
  have g7 := (Gr.refl w3).drew.trans hb
  obtain ⟨b0, b1, b2, b3, b4, b5, b6, b7, b8, b9⟩ := HNB1.out.gr g7
  obtain ⟨-, y0, y1, y2, y3, y4, y5, y6, y7, y8, y9⟩ := hHeld7.2.2.1
  have HH := Lib.hid hHeld
  have HH7 := Lib.hid hHeld7
  have HG7 := Lib.hid g7
  have HO7 := Lib.hid hown7
  clear hHeld hHeld7 g7 hown7 hb
  go_simp
  have hH8 := HH7.out.put10 HCW.out (Nat.le_refl _) (.slice A7 n7 c7) (.int .i64 nx) (.int .i64 (s 0)) (.int .i64 (s 1)) (.int .i64 (s 2)) (.int .i64 (s 3)) (.int .i64 (s 4)) (.int .i64 (s 5)) (.int .i64 (s 6)) (.int .i64 (s 7))
  refine hK.out _ _ hH8 (fun hx8 => ?_)
  have hHeld8 : TR w b (off + k * 4) w.heap.size (.slice (some ⟨b, off, none⟩) n c) nx s p (put10 w7 (w.heap.size + 1) (.slice A7 n7 c7) (.int .i64 nx) (.int .i64 (s 0)) (.int .i64 (s 1)) (.int .i64 (s 2)) (.int .i64 (s 3)) (.int .i64 (s 4)) (.int .i64 (s 5)) (.int .i64 (s 6)) (.int .i64 (s 7))) := hH8
  clear hx8 hK K hH8 b0 b1 b2 b3 b4 b5 b6 b7 b8 b9 y0 y1 y2 y3 y4 y5 y6 y7 y8 y9
  try simp only [Act.put, List.setIfInBounds_toArray, List.set_cons_zero, List.set_cons_succ]
  have HO8 : Hid (PO (put10 w7 (w.heap.size + 1) (.slice A7 n7 c7) (.int .i64 nx) (.int .i64 (s 0)) (.int .i64 (s 1)) (.int .i64 (s 2)) (.int .i64 (s 3)) (.int .i64 (s 4)) (.int .i64 (s 5)) (.int .i64 (s 6)) (.int .i64 (s 7))) (w.heap.size + 1 + 1 + 1) (.slice A7 n7 c7) (less L k)) := Lib.hid (own_put10 (own_le HO7.out HZ6.out) (by omega) _ _ _ _ _ _ _ _ _ _)
  have hr8 : NB (put10 w7 (w.heap.size + 1) (.slice A7 n7 c7) (.int .i64 nx) (.int .i64 (s 0)) (.int .i64 (s 1)) (.int .i64 (s 2)) (.int .i64 (s 3)) (.int .i64 (s 4)) (.int .i64 (s 5)) (.int .i64 (s 6)) (.int .i64 (s 7))) (w.heap.size + 1) (.slice A7 n7 c7) nx s := NB.put (HNB1.out.gr HG7.out) _ _ _
  have hd8 : PB (put10 w7 (w.heap.size + 1) (.slice A7 n7 c7) (.int .i64 nx) (.int .i64 (s 0)) (.int .i64 (s 1)) (.int .i64 (s 2)) (.int .i64 (s 3)) (.int .i64 (s 4)) (.int .i64 (s 5)) (.int .i64 (s 6)) (.int .i64 (s 7))) (w.heap.size + 1 + 1) p0 := (HPB2.out.gr HG7.out).far10 (by omega) _ _ _ _ _ _ _ _ _ _
  obtain ⟨w8, hw8⟩ : ∃ w8, w8 = put10 w7 (w.heap.size + 1) (.slice A7 n7 c7) (.int .i64 nx) (.int .i64 (s 0)) (.int .i64 (s 1)) (.int .i64 (s 2)) (.int .i64 (s 3)) (.int .i64 (s 4)) (.int .i64 (s 5)) (.int .i64 (s 6)) (.int .i64 (s 7)) := ⟨_, rfl⟩
  rw [← hw8] at HO8 hr8 hd8 hHeld8
  have HH8 := Lib.hid hHeld8
  have HR8 := Lib.hid hr8
  have HD9 := Lib.hid (PB.put hd8 p)
  clear HH HH7 HO7 hr8
  unfold put10 at hw8
  rw [← hw8]
  clear hw8
  refine wpAnyH_ready (rs := [9]) (by kernel_rfl) (by simp) ?_
  refine AllReadyH.cons rfl (fun K hK => ?_) AllReadyH.nil
  obtain ⟨d0, d1, d2, d3⟩ := hd8
  obtain ⟨-, z0, z1, z2, z3⟩ := hHeld8.2.2.2.1
  clear hHeld8
  go_simp
  have hH9 := HH8.out.put4 HCW.out (Nat.le_refl _) (.int .i64 p.id) (.int .i64 p.src) (.int .i64 p.dst) (.string p.body)
  refine hK.out _ _ hH9 (fun hx9 => ?_)
  have HH9 := Lib.hid hH9
  clear hx9 hK K hH9 d0 d1 d2 d3 z0 z1 z2 z3
  try simp only [Act.put, List.setIfInBounds_toArray, List.set_cons_zero, List.set_cons_succ]
  refine wpAnyH_ready (rs := [10]) (by kernel_rfl) (by simp) ?_
  refine AllReadyH.cons rfl (fun K hK => ?_) AllReadyH.nil
  go_simp
  refine hK.out _ _ HH9.out (fun hx9 => ?_)
  clear hx9 hK K
  try simp only [Act.put, List.setIfInBounds_toArray, List.set_cons_zero, List.set_cons_succ]
  refine wpAnyH_done (by kernel_rfl) ?_ _
  refine NoPanic.normal ?_
  obtain ⟨b0, b1, b2, b3, b4, b5, b6, b7, b8, b9⟩ := HR8.out.far4 (b := w.heap.size + 1 + 1) (by omega) (.int .i64 p.id) (.int .i64 p.src) (.int .i64 p.dst) (.string p.body)
  obtain ⟨d0, d1, d2, d3⟩ := HD9.out
  go_wp2
  refine bodyPost_ret (v := .tuple #[.agg (ncells (.slice A7 n7 c7) nx s), .agg (pcells p), .int .i64 0]) (by simp [results, Try.results11, go_sem, b0, b1, b2, b3, b4, b5, b6, b7, b8, b9, d0, d1, d2, d3]) rfl ⟨_, rfl, ?_, ?_⟩
  · exact own_le (own_put4 HO8.out (by omega) _ _ _ _) (by omega)
  · exact below_put4 HH8.out.2.2.2.2 (by omega) _ _ _ _

end Go.Proofs.Ytfmfeokjnkbpeaa.Wi
