/- Walks: what an operation is about; whether an operation of its own transaction sees a deed. Walks: whether a later operation of its own transaction sees a deed. -/
import Derived.Test.YtnjmgknicffcbaaGreatDoorZr18
namespace Go.Proofs.YtnjmgknicffcbaaGreatDoor
open Go.RowKit Go.Joins
set_option linter.unusedSimpArgs false
set_option linter.unusedVariables false

/-- What the operation is about. -/
def aboutT (o : TO) : ByteArray := if o.kind = 6 then ⟨#[]⟩ else o.elem
set_option maxRecDepth 100000 in
set_option maxHeartbeats 2000000 in
theorem about_any (o : TO) (w : World) :
    Calls Tryz.prog 202 #[.agg (opv o)] w fun e w' => e = .returned (.string (aboutT o)) ∧ Gr w w' := by
  have HG := Lib.hid (gr_box w (.cells (opv o) 52))
  obtain ⟨a, ha⟩ : ∃ a, a = aboutT o := ⟨_, rfl⟩
  rw [← ha]
  by_cases hk : o.kind = 6
  · have HA : Hid (a = ⟨#[]⟩) := Lib.hid (by rw [ha]; unfold aboutT; rw [if_pos hk])
    clear ha
    have hd : decide (o.kind = 6) = true := decide_eq_true hk
    have hd2 : (o.kind == 6) = true := beq_iff_eq.2 hk
    go_enter Tryz.func202, Tryz.ntmps202
    go_wp2_with fail
    go_ret
    exact ⟨by rw [HA.out]; rfl, HG.out⟩
  · have HA : Hid (a = o.elem) := Lib.hid (by rw [ha]; unfold aboutT; rw [if_neg hk])
    clear ha
    have hd : decide (o.kind = 6) = false := decide_eq_false hk
    have hd2 : (o.kind == 6) = false := beq_eq_false_iff_ne.2 hk
    go_enter Tryz.func202, Tryz.ntmps202
    go_wp2_with fail
    go_ret
    exact ⟨by rw [HA.out]; rfl, HG.out⟩
/-- Whether the operation p of that kind sees o. -/
def seesB (k : Int) (p o : TO) : Bool := decide (p.kind = k) && (eqS p.key o.key && eqS (aboutT p) (aboutT o))
set_option maxRecDepth 100000 in
set_option maxHeartbeats 2000000 in
theorem within1_any (p o : TO) (k : Int) (PK PO : Nat) (w : World) (h0 : w.cell? ⟨PK, 0, none⟩ = some (.int .i64 k)) (h1 : TCell w PO 0 o) :
    Calls Tryz.prog 223 #[.agg (opv p), .pointer (some ⟨PK, 0, none⟩), .pointer (some ⟨PO, 0, none⟩)] w fun e w' => e = .returned (.bool (seesB k p o)) ∧ Gr w w' := by
  obtain ⟨W, hW, hg, hp⟩ := opbox w p
  have HG := Lib.hid hg
  have HP := Lib.hid hp
  have HO := Lib.hid (TCell.gr h1 hg)
  have HK := Lib.hid (hg.cell h0)
  have HA := Lib.hid (fun (x : TO) w1 => about_any x w1)
  obtain ⟨r, hr⟩ : ∃ r, r = seesB k p o := ⟨_, rfl⟩
  rw [← hr]
  have HR := Lib.hid hr
  clear hg hp h0 h1 hr
  go_enter Tryz.func223, Tryz.ntmps223
  go_upto_region 1 with (fail)
  rw [← hW]
  clear hW
  by_cases hk : p.kind = k
  · subst hk
    have hd : decide (p.kind = p.kind) = true := decide_eq_true rfl
    have hd2 : (p.kind == p.kind) = true := beq_iff_eq.2 rfl
    rcases hq : eqS p.key o.key with _ | _
    · have hqe : (p.key.toList == o.key.toList) = false := hq
      have HE : Hid (r = false) := Lib.hid (by rw [HR.out]; unfold seesB; rw [hd, hq]; rfl)
      clear HR
      refine qRegion (fun w' => TCell w' w.heap.size 0 p ∧ TCell w' PO 0 o ∧ w'.cell? ⟨PK, 0, none⟩ = some (.int .i64 p.kind) ∧ Gr W w') (by kernel_rfl) (by kernel_rfl) ⟨TCell.gr HP.out (Gr.refl _).drew, TCell.gr HO.out (Gr.refl _).drew, (Gr.refl _).drew.cell HK.out, (Gr.refl _).drew⟩ ?_
      iterate 12
        refine qTake (by kernel_rfl) ?_
        apply Exists.intro
        refine ⟨fun wq hq => ?_, ?_⟩
        · go_light
          obtain ⟨⟨a0, a1, a2, a3⟩, ⟨b0, b1, b2, b3⟩, c0, hg⟩ := hq
          go_simp
          try with_reducible rfl
          done
        try simp only [Act.put, List.setIfInBounds_toArray, List.set_cons_zero, List.set_cons_succ]
      iterate 5
        refine qSkip (by kernel_rfl) ?_
        try simp only [Act.put, List.setIfInBounds_toArray, List.set_cons_zero, List.set_cons_succ]
      iterate 2
        refine qTake (by kernel_rfl) ?_
        apply Exists.intro
        refine ⟨fun wq hq => ?_, ?_⟩
        · go_light
          obtain ⟨⟨a0, a1, a2, a3⟩, ⟨b0, b1, b2, b3⟩, c0, hg⟩ := hq
          go_simp
          try with_reducible rfl
          done
        try simp only [Act.put, List.setIfInBounds_toArray, List.set_cons_zero, List.set_cons_succ]
      refine qNil ?_
      rintro w3 ⟨-, -, -, hg3⟩
      have HG3 := Lib.hid (HG.out.trans hg3)
      clear hg3
      go_wp2_with fail
      go_ret
      exact ⟨by rw [HE.out]; rfl, HG3.out⟩
    · have hqe : (p.key.toList == o.key.toList) = true := hq
      rcases hs : eqS (aboutT p) (aboutT o) with _ | _
      · have hse : ((aboutT p).toList == (aboutT o).toList) = false := hs
        have HE : Hid (r = false) := Lib.hid (by rw [HR.out]; unfold seesB; rw [hd, hq, hs]; rfl)
        clear HR
        refine qRegion (fun w' => TCell w' w.heap.size 0 p ∧ TCell w' PO 0 o ∧ w'.cell? ⟨PK, 0, none⟩ = some (.int .i64 p.kind) ∧ Gr W w') (by kernel_rfl) (by kernel_rfl) ⟨TCell.gr HP.out (Gr.refl _).drew, TCell.gr HO.out (Gr.refl _).drew, (Gr.refl _).drew.cell HK.out, (Gr.refl _).drew⟩ ?_
        iterate 13
          refine qTake (by kernel_rfl) ?_
          apply Exists.intro
          refine ⟨fun wq hq => ?_, ?_⟩
          · go_light
            obtain ⟨⟨a0, a1, a2, a3⟩, ⟨b0, b1, b2, b3⟩, c0, hg⟩ := hq
            go_simp
            try with_reducible rfl
            done
          try simp only [Act.put, List.setIfInBounds_toArray, List.set_cons_zero, List.set_cons_succ]
        refine qCall (by kernel_rfl) ?_
        apply Exists.intro
        refine ⟨?_, ?_⟩
        · apply Exists.intro
          apply Exists.intro
          refine ⟨fun wq => ?_, fun wq hq => ?_⟩
          · go_light
            go_simp
            exact ⟨rfl, rfl⟩
          · exact (HA.out p wq).mono fun e w'' ⟨he, hg⟩ => ⟨he, TCell.gr hq.1 hg, TCell.gr hq.2.1 hg, hg.cell hq.2.2.1, hq.2.2.2.trans hg⟩
        try simp only [Act.put, List.setIfInBounds_toArray, List.set_cons_zero, List.set_cons_succ]
        iterate 1
          refine qTake (by kernel_rfl) ?_
          apply Exists.intro
          refine ⟨fun wq hq => ?_, ?_⟩
          · go_light
            obtain ⟨⟨a0, a1, a2, a3⟩, ⟨b0, b1, b2, b3⟩, c0, hg⟩ := hq
            go_simp
            try with_reducible rfl
            done
          try simp only [Act.put, List.setIfInBounds_toArray, List.set_cons_zero, List.set_cons_succ]
        refine qCall (by kernel_rfl) ?_
        apply Exists.intro
        refine ⟨?_, ?_⟩
        · apply Exists.intro
          apply Exists.intro
          refine ⟨fun wq => ?_, fun wq hq => ?_⟩
          · go_light
            go_simp
            exact ⟨rfl, rfl⟩
          · exact (HA.out o wq).mono fun e w'' ⟨he, hg⟩ => ⟨he, TCell.gr hq.1 hg, TCell.gr hq.2.1 hg, hg.cell hq.2.2.1, hq.2.2.2.trans hg⟩
        try simp only [Act.put, List.setIfInBounds_toArray, List.set_cons_zero, List.set_cons_succ]
        iterate 3
          refine qTake (by kernel_rfl) ?_
          apply Exists.intro
          refine ⟨fun wq hq => ?_, ?_⟩
          · go_light
            obtain ⟨⟨a0, a1, a2, a3⟩, ⟨b0, b1, b2, b3⟩, c0, hg⟩ := hq
            go_simp
            try with_reducible rfl
            done
          try simp only [Act.put, List.setIfInBounds_toArray, List.set_cons_zero, List.set_cons_succ]
        refine qNil ?_
        rintro w3 ⟨-, -, -, hg3⟩
        have HG3 := Lib.hid (HG.out.trans hg3)
        clear hg3
        go_wp2_with fail
        go_ret
        exact ⟨by rw [HE.out]; rfl, HG3.out⟩
      · have hse : ((aboutT p).toList == (aboutT o).toList) = true := hs
        have HE : Hid (r = true) := Lib.hid (by rw [HR.out]; unfold seesB; rw [hd, hq, hs]; rfl)
        clear HR
        refine qRegion (fun w' => TCell w' w.heap.size 0 p ∧ TCell w' PO 0 o ∧ w'.cell? ⟨PK, 0, none⟩ = some (.int .i64 p.kind) ∧ Gr W w') (by kernel_rfl) (by kernel_rfl) ⟨TCell.gr HP.out (Gr.refl _).drew, TCell.gr HO.out (Gr.refl _).drew, (Gr.refl _).drew.cell HK.out, (Gr.refl _).drew⟩ ?_
        iterate 13
          refine qTake (by kernel_rfl) ?_
          apply Exists.intro
          refine ⟨fun wq hq => ?_, ?_⟩
          · go_light
            obtain ⟨⟨a0, a1, a2, a3⟩, ⟨b0, b1, b2, b3⟩, c0, hg⟩ := hq
            go_simp
            try with_reducible rfl
            done
          try simp only [Act.put, List.setIfInBounds_toArray, List.set_cons_zero, List.set_cons_succ]
        refine qCall (by kernel_rfl) ?_
        apply Exists.intro
        refine ⟨?_, ?_⟩
        · apply Exists.intro
          apply Exists.intro
          refine ⟨fun wq => ?_, fun wq hq => ?_⟩
          · go_light
            go_simp
            exact ⟨rfl, rfl⟩
          · exact (HA.out p wq).mono fun e w'' ⟨he, hg⟩ => ⟨he, TCell.gr hq.1 hg, TCell.gr hq.2.1 hg, hg.cell hq.2.2.1, hq.2.2.2.trans hg⟩
        try simp only [Act.put, List.setIfInBounds_toArray, List.set_cons_zero, List.set_cons_succ]
        iterate 1
          refine qTake (by kernel_rfl) ?_
          apply Exists.intro
          refine ⟨fun wq hq => ?_, ?_⟩
          · go_light
            obtain ⟨⟨a0, a1, a2, a3⟩, ⟨b0, b1, b2, b3⟩, c0, hg⟩ := hq
            go_simp
            try with_reducible rfl
            done
          try simp only [Act.put, List.setIfInBounds_toArray, List.set_cons_zero, List.set_cons_succ]
        refine qCall (by kernel_rfl) ?_
        apply Exists.intro
        refine ⟨?_, ?_⟩
        · apply Exists.intro
          apply Exists.intro
          refine ⟨fun wq => ?_, fun wq hq => ?_⟩
          · go_light
            go_simp
            exact ⟨rfl, rfl⟩
          · exact (HA.out o wq).mono fun e w'' ⟨he, hg⟩ => ⟨he, TCell.gr hq.1 hg, TCell.gr hq.2.1 hg, hg.cell hq.2.2.1, hq.2.2.2.trans hg⟩
        try simp only [Act.put, List.setIfInBounds_toArray, List.set_cons_zero, List.set_cons_succ]
        iterate 3
          refine qTake (by kernel_rfl) ?_
          apply Exists.intro
          refine ⟨fun wq hq => ?_, ?_⟩
          · go_light
            obtain ⟨⟨a0, a1, a2, a3⟩, ⟨b0, b1, b2, b3⟩, c0, hg⟩ := hq
            go_simp
            try with_reducible rfl
            done
          try simp only [Act.put, List.setIfInBounds_toArray, List.set_cons_zero, List.set_cons_succ]
        refine qNil ?_
        rintro w3 ⟨-, -, -, hg3⟩
        have HG3 := Lib.hid (HG.out.trans hg3)
        clear hg3
        go_wp2_with fail
        go_ret
        exact ⟨by rw [HE.out]; rfl, HG3.out⟩
  · have hd : decide (p.kind = k) = false := decide_eq_false hk
    have hd2 : (p.kind == k) = false := beq_eq_false_iff_ne.2 hk
    have HE : Hid (r = false) := Lib.hid (by rw [HR.out]; unfold seesB; rw [hd]; rfl)
    clear HR
    refine qRegion (fun w' => TCell w' w.heap.size 0 p ∧ TCell w' PO 0 o ∧ w'.cell? ⟨PK, 0, none⟩ = some (.int .i64 k) ∧ Gr W w') (by kernel_rfl) (by kernel_rfl) ⟨TCell.gr HP.out (Gr.refl _).drew, TCell.gr HO.out (Gr.refl _).drew, (Gr.refl _).drew.cell HK.out, (Gr.refl _).drew⟩ ?_
    iterate 5
      refine qTake (by kernel_rfl) ?_
      apply Exists.intro
      refine ⟨fun wq hq => ?_, ?_⟩
      · go_light
        obtain ⟨⟨a0, a1, a2, a3⟩, ⟨b0, b1, b2, b3⟩, c0, hg⟩ := hq
        go_simp
        try with_reducible rfl
        done
      try simp only [Act.put, List.setIfInBounds_toArray, List.set_cons_zero, List.set_cons_succ]
    iterate 5
      refine qSkip (by kernel_rfl) ?_
      try simp only [Act.put, List.setIfInBounds_toArray, List.set_cons_zero, List.set_cons_succ]
    iterate 2
      refine qTake (by kernel_rfl) ?_
      apply Exists.intro
      refine ⟨fun wq hq => ?_, ?_⟩
      · go_light
        obtain ⟨⟨a0, a1, a2, a3⟩, ⟨b0, b1, b2, b3⟩, c0, hg⟩ := hq
        go_simp
        try with_reducible rfl
        done
      try simp only [Act.put, List.setIfInBounds_toArray, List.set_cons_zero, List.set_cons_succ]
    iterate 5
      refine qSkip (by kernel_rfl) ?_
      try simp only [Act.put, List.setIfInBounds_toArray, List.set_cons_zero, List.set_cons_succ]
    iterate 2
      refine qTake (by kernel_rfl) ?_
      apply Exists.intro
      refine ⟨fun wq hq => ?_, ?_⟩
      · go_light
        obtain ⟨⟨a0, a1, a2, a3⟩, ⟨b0, b1, b2, b3⟩, c0, hg⟩ := hq
        go_simp
        try with_reducible rfl
        done
      try simp only [Act.put, List.setIfInBounds_toArray, List.set_cons_zero, List.set_cons_succ]
    refine qNil ?_
    rintro w3 ⟨-, -, -, hg3⟩
    have HG3 := Lib.hid (HG.out.trans hg3)
    clear hg3
    go_wp2_with fail
    go_ret
    exact ⟨by rw [HE.out]; rfl, HG3.out⟩
end Go.Proofs.YtnjmgknicffcbaaGreatDoor
namespace Go.Proofs.YtnjmgknicffcbaaGreatDoor
open Go.RowKit Go.Joins
set_option linter.unusedSimpArgs false
set_option linter.unusedVariables false

theorem TOV.drop {w : World} {A : Option Addr} {n c k : Nat} {ops : List TO} (h : TOV w (.slice A n c) ops) (hk : k ≤ n) : TOV w (sliced A k n c 4) (ops.drop k) := by
  obtain ⟨A', c', hv, h1, ⟨h2, h2'⟩, h3⟩ := h
  injection hv with e1 e2 e3
  subst e1 e2 e3
  refine ⟨if c = k then A else A.map (·.add (k * 4)), c - k, by rw [List.length_drop]; rfl, by rw [List.length_drop]; omega, ⟨by omega, fun e => ?_⟩, fun j hj => ?_⟩
  · by_cases q : c = k
    · omega
    · rw [if_neg q] at e
      have : A = none := by cases A with | none => rfl | some a => cases e
      have := h2' this
      omega
  · rw [List.length_drop] at hj
    obtain ⟨b, off, ha, hc⟩ := h3 (k + j) (by omega)
    subst ha
    refine ⟨b, off + k * 4, ?_, ?_⟩
    · rw [if_neg (by omega)]
      show some ((⟨b, off, none⟩ : Addr).add (k * 4)) = _
      rw [Go.WideShapes.add_plain]
    · rw [List.getElem_drop, show off + k * 4 + j * 4 = off + (k + j) * 4 by omega]
      exact hc
def IWRel (k : Int) (o : TO) (L : List TO) (w : World) (i : Value) (wr : World) : Prop :=
  ∃ j : Nat, j ≤ L.length ∧ i = .int .i64 (j : Int) ∧ Gr w wr ∧ ∀ q (hq : q < L.length), q < j → seesB k L[q] o = false
theorem any_at {k : Int} {o : TO} {L : List TO} {j : Nat} (hj : j < L.length) (h : seesB k L[j] o = true) : (L.any fun p => seesB k p o) = true := List.any_eq_true.2 ⟨L[j], List.getElem_mem hj, h⟩
theorem any_none {k : Int} {o : TO} {L : List TO} (h : ∀ q (hq : q < L.length), seesB k L[q] o = false) : (L.any fun p => seesB k p o) = false := by
  rw [List.any_eq_false]
  intro x hx
  obtain ⟨i, hi, rfl⟩ := List.mem_iff_getElem.1 hx
  rw [h i hi]
  exact Bool.false_ne_true
set_option maxRecDepth 100000 in
set_option maxHeartbeats 1000000 in
theorem indexW_any (v : Value) (L : List TO) (o : TO) (k : Int) (PK PO : Nat) (w : World) (hv : TOV w v L) (h0 : w.cell? ⟨PK, 0, none⟩ = some (.int .i64 k)) (h1 : TCell w PO 0 o) :
    Calls Tryz.prog 237 #[v, .func (.func 223) #[] #[.pointer (some ⟨PK, 0, none⟩), .pointer (some ⟨PO, 0, none⟩)]] w fun e w' => ∃ r : Int, e = .returned (.int .i64 r) ∧ decide (0 ≤ r) = (L.any fun p => seesB k p o) ∧ Gr w w' := by
  obtain ⟨A, c, hva, hnc, ⟨hcm, -⟩, hat⟩ := hv
  subst hva
  have HAT : Hid (∀ j (hj : j < L.length), ∃ b off, A = some ⟨b, off, none⟩ ∧ TCell w b (off + j * 4) L[j]) := Lib.hid hat
  have H0 := Lib.hid h0
  have H1 := Lib.hid h1
  have hc63 : c ≤ 9223372036854775807 := by unfold maxLen at hcm; omega
  obtain ⟨n, hn⟩ : ∃ n, n = L.length := ⟨_, rfl⟩
  rw [← hn] at hnc ⊢
  have HN := Lib.hid hn
  clear hn hat h0 h1 hcm
  go_enter Tryz.func237, Tryz.ntmps237
  go_wp2_with fail
  go_loopw [8] (fun i wr => IWRel k o L w i wr) (fun i _ => n - (intOf i).toNat)
  case atStart => exact ⟨0, Nat.zero_le _, rfl, Gr.refl _, fun j _ h => absurd h (Nat.not_lt_zero _)⟩
  case round =>
    obtain ⟨j, hj, rfl, hgr, hall⟩ := hrel
    rw [← HN.out] at hj
    have HAL := Lib.hid hall
    clear hall
    by_cases hlt : j < n
    · have hjM : j < L.length := by rw [← HN.out]; exact hlt
      obtain ⟨b, off, hA, hc⟩ := HAT.out j hjM
      subst hA
      obtain ⟨c0, c1', c2, c3⟩ := TCell.gr hc hgr
      obtain ⟨f, hf⟩ : ∃ f, f = L[j] := ⟨_, rfl⟩
      rw [← hf] at c0 c1' c2 c3
      have HF := Lib.hid hf
      have HC := Lib.hid (within1_any f o k PK PO wr (hgr.cell H0.out) (TCell.gr H1.out hgr))
      rcases hq : seesB k f o with _ | _
      · rw [hq] at HC
        have HA2 : Hid (∀ q (hq : q < L.length), q < j + 1 → seesB k L[q] o = false) := Lib.hid fun q hqq hjk => by
          by_cases e : q = j
          · subst e; rw [← HF.out]; exact hq
          · exact HAL.out q hqq (by omega)
        clear hq hf hc
        go_wp2_with fail
        refine HC.out.mono ?_
        rintro e w1 ⟨rfl, g1⟩
        go_wp2_with fail
        go_roundw
        case rel => exact ⟨j + 1, by rw [← HN.out]; omega, by go_num, hgr.trans g1, HA2.out⟩
        case measure => simp [intOf]; omega
      · rw [hq] at HC
        have HI := Lib.hid (any_at hjM (by rw [← HF.out]; exact hq))
        clear hq hf hc
        go_wp2_with fail
        refine HC.out.mono ?_
        rintro e w1 ⟨rfl, g1⟩
        go_wp2_with fail
        go_ret
        exact ⟨_, rfl, by rw [HI.out]; exact decide_eq_true (by omega), hgr.trans g1⟩
    · have HI := Lib.hid (any_none (k := k) (o := o) (L := L) (fun q hq => HAL.out q hq (by rw [← HN.out] at hq; omega)))
      go_wp2_with fail
      go_ret
      exact ⟨_, rfl, by rw [HI.out]; rfl, hgr⟩
set_option maxRecDepth 100000 in
set_option maxHeartbeats 1000000 in
theorem containsW_any (v : Value) (L : List TO) (o : TO) (k : Int) (PK PO : Nat) (w : World) (hv : TOV w v L) (h0 : w.cell? ⟨PK, 0, none⟩ = some (.int .i64 k)) (h1 : TCell w PO 0 o) :
    Calls Tryz.prog 222 #[v, .func (.func 223) #[] #[.pointer (some ⟨PK, 0, none⟩), .pointer (some ⟨PO, 0, none⟩)]] w fun e w' => e = .returned (.bool (L.any fun p => seesB k p o)) ∧ Gr w w' := by
  have H := Lib.hid (indexW_any v L o k PK PO w hv h0 h1)
  obtain ⟨q, hq⟩ : ∃ q, q = (L.any fun p => seesB k p o) := ⟨_, rfl⟩
  rw [← hq] at H ⊢
  clear hv h0 h1 hq
  go_enter Tryz.func222, Tryz.ntmps222
  go_wp2_with fail
  refine H.out.mono ?_
  rintro e w1 ⟨r, rfl, hr, g1⟩
  have HG := Lib.hid g1
  have HR := Lib.hid hr
  clear g1 hr
  go_wp2_with fail
  go_ret
  exact ⟨by rw [← HR.out]; rfl, HG.out⟩
/-- Whether a later operation of its own transaction, of that kind, sees the deed. -/
def withinD (k : Int) (d : DD) : Bool := (d.t.ops.drop (d.i + 1)).any fun p => seesB k p d.op
end Go.Proofs.YtnjmgknicffcbaaGreatDoor
