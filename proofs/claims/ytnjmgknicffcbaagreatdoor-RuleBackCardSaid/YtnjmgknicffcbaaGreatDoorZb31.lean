/- Walks: what an operation is about; whether an operation of its own transaction sees a deed. -/
import Derived.Test.YtnjmgknicffcbaaGreatDoorZb26
namespace Go.Proofs.YtnjmgknicffcbaaGreatDoor
open Go.RowKit Go.Joins
set_option linter.unusedSimpArgs false
set_option linter.unusedVariables false

/-- What the operation is about. -/
def aboutT (o : TO) : ByteArray := if o.kind = 6 then ⟨#[]⟩ else o.elem
set_option maxRecDepth 100000 in
set_option maxHeartbeats 2000000 in
theorem about_any (o : TO) (w : World) :
    Calls Tryz.prog 202 #[.agg (opv o)] w fun e w' => e = .returned (.string (aboutT o)) ∧ Gr w w' := by
  have HG := Lib.hid (gr_box w (.cells (opv o) 52))
  obtain ⟨a, ha⟩ : ∃ a, a = aboutT o := ⟨_, rfl⟩
  rw [← ha]
  by_cases hk : o.kind = 6
  · have HA : Hid (a = ⟨#[]⟩) := Lib.hid (by rw [ha]; unfold aboutT; rw [if_pos hk])
    clear ha
    have hd : decide (o.kind = 6) = true := decide_eq_true hk
    have hd2 : (o.kind == 6) = true := beq_iff_eq.2 hk
    go_enter Tryz.func202, Tryz.ntmps202
    go_wp2_with fail
    go_ret
    exact ⟨by rw [HA.out]; rfl, HG.out⟩
  · have HA : Hid (a = o.elem) := Lib.hid (by rw [ha]; unfold aboutT; rw [if_neg hk])
    clear ha
    have hd : decide (o.kind = 6) = false := decide_eq_false hk
    have hd2 : (o.kind == 6) = false := beq_eq_false_iff_ne.2 hk
    go_enter Tryz.func202, Tryz.ntmps202
    go_wp2_with fail
    go_ret
    exact ⟨by rw [HA.out]; rfl, HG.out⟩
/-- Whether the operation p of that kind sees o. -/
def seesB (k : Int) (p o : TO) : Bool := decide (p.kind = k) && (eqS p.key o.key && eqS (aboutT p) (aboutT o))
set_option maxRecDepth 100000 in
set_option maxHeartbeats 2000000 in
theorem within1_any (p o : TO) (k : Int) (PK PO : Nat) (w : World) (h0 : w.cell? ⟨PK, 0, none⟩ = some (.int .i64 k)) (h1 : TCell w PO 0 o) :
    Calls Tryz.prog 223 #[.agg (opv p), .pointer (some ⟨PK, 0, none⟩), .pointer (some ⟨PO, 0, none⟩)] w fun e w' => e = .returned (.bool (seesB k p o)) ∧ Gr w w' := by
  obtain ⟨W, hW, hg, hp⟩ := opbox w p
  have HG := Lib.hid hg
  have HP := Lib.hid hp
  have HO := Lib.hid (TCell.gr h1 hg)
  have HK := Lib.hid (hg.cell h0)
  have HA := Lib.hid (fun (x : TO) w1 => about_any x w1)
  obtain ⟨r, hr⟩ : ∃ r, r = seesB k p o := ⟨_, rfl⟩
  rw [← hr]
  have HR := Lib.hid hr
  clear hg hp h0 h1 hr
  go_enter Tryz.func223, Tryz.ntmps223
  go_upto_region 1 with (fail)
  rw [← hW]
  clear hW
  by_cases hk : p.kind = k
  · subst hk
    have hd : decide (p.kind = p.kind) = true := decide_eq_true rfl
    have hd2 : (p.kind == p.kind) = true := beq_iff_eq.2 rfl
    rcases hq : eqS p.key o.key with _ | _
    · have hqe : (p.key.toList == o.key.toList) = false := hq
      have HE : Hid (r = false) := Lib.hid (by rw [HR.out]; unfold seesB; rw [hd, hq]; rfl)
      clear HR
      refine qRegion (fun w' => TCell w' w.heap.size 0 p ∧ TCell w' PO 0 o ∧ w'.cell? ⟨PK, 0, none⟩ = some (.int .i64 p.kind) ∧ Gr W w') (by kernel_rfl) (by kernel_rfl) ⟨TCell.gr HP.out (Gr.refl _).drew, TCell.gr HO.out (Gr.refl _).drew, (Gr.refl _).drew.cell HK.out, (Gr.refl _).drew⟩ ?_
      iterate 12
        refine qTake (by kernel_rfl) ?_
        apply Exists.intro
        refine ⟨fun wq hq => ?_, ?_⟩
        · go_light
          obtain ⟨⟨a0, a1, a2, a3⟩, ⟨b0, b1, b2, b3⟩, c0, hg⟩ := hq
          go_simp
          try with_reducible rfl
          done
        try simp only [Act.put, List.setIfInBounds_toArray, List.set_cons_zero, List.set_cons_succ]
      iterate 5
        refine qSkip (by kernel_rfl) ?_
        try simp only [Act.put, List.setIfInBounds_toArray, List.set_cons_zero, List.set_cons_succ]
      iterate 2
        refine qTake (by kernel_rfl) ?_
        apply Exists.intro
        refine ⟨fun wq hq => ?_, ?_⟩
        · go_light
          obtain ⟨⟨a0, a1, a2, a3⟩, ⟨b0, b1, b2, b3⟩, c0, hg⟩ := hq
          go_simp
          try with_reducible rfl
          done
        try simp only [Act.put, List.setIfInBounds_toArray, List.set_cons_zero, List.set_cons_succ]
      refine qNil ?_
      rintro w3 ⟨-, -, -, hg3⟩
      have HG3 := Lib.hid (HG.out.trans hg3)
      clear hg3
      go_wp2_with fail
      go_ret
      exact ⟨by rw [HE.out]; rfl, HG3.out⟩
    · have hqe : (p.key.toList == o.key.toList) = true := hq
      rcases hs : eqS (aboutT p) (aboutT o) with _ | _
      · have hse : ((aboutT p).toList == (aboutT o).toList) = false := hs
        have HE : Hid (r = false) := Lib.hid (by rw [HR.out]; unfold seesB; rw [hd, hq, hs]; rfl)
        clear HR
        refine qRegion (fun w' => TCell w' w.heap.size 0 p ∧ TCell w' PO 0 o ∧ w'.cell? ⟨PK, 0, none⟩ = some (.int .i64 p.kind) ∧ Gr W w') (by kernel_rfl) (by kernel_rfl) ⟨TCell.gr HP.out (Gr.refl _).drew, TCell.gr HO.out (Gr.refl _).drew, (Gr.refl _).drew.cell HK.out, (Gr.refl _).drew⟩ ?_
        iterate 13
          refine qTake (by kernel_rfl) ?_
          apply Exists.intro
          refine ⟨fun wq hq => ?_, ?_⟩
          · go_light
            obtain ⟨⟨a0, a1, a2, a3⟩, ⟨b0, b1, b2, b3⟩, c0, hg⟩ := hq
            go_simp
            try with_reducible rfl
            done
          try simp only [Act.put, List.setIfInBounds_toArray, List.set_cons_zero, List.set_cons_succ]
        refine qCall (by kernel_rfl) ?_
        apply Exists.intro
        refine ⟨?_, ?_⟩
        · apply Exists.intro
          apply Exists.intro
          refine ⟨fun wq => ?_, fun wq hq => ?_⟩
          · go_light
            go_simp
            exact ⟨rfl, rfl⟩
          · exact (HA.out p wq).mono fun e w'' ⟨he, hg⟩ => ⟨he, TCell.gr hq.1 hg, TCell.gr hq.2.1 hg, hg.cell hq.2.2.1, hq.2.2.2.trans hg⟩
        try simp only [Act.put, List.setIfInBounds_toArray, List.set_cons_zero, List.set_cons_succ]
        iterate 1
          refine qTake (by kernel_rfl) ?_
          apply Exists.intro
          refine ⟨fun wq hq => ?_, ?_⟩
          · go_light
            obtain ⟨⟨a0, a1, a2, a3⟩, ⟨b0, b1, b2, b3⟩, c0, hg⟩ := hq
            go_simp
            try with_reducible rfl
            done
          try simp only [Act.put, List.setIfInBounds_toArray, List.set_cons_zero, List.set_cons_succ]
        refine qCall (by kernel_rfl) ?_
        apply Exists.intro
        refine ⟨?_, ?_⟩
        · apply Exists.intro
          apply Exists.intro
          refine ⟨fun wq => ?_, fun wq hq => ?_⟩
          · go_light
            go_simp
            exact ⟨rfl, rfl⟩
          · exact (HA.out o wq).mono fun e w'' ⟨he, hg⟩ => ⟨he, TCell.gr hq.1 hg, TCell.gr hq.2.1 hg, hg.cell hq.2.2.1, hq.2.2.2.trans hg⟩
        try simp only [Act.put, List.setIfInBounds_toArray, List.set_cons_zero, List.set_cons_succ]
        iterate 3
          refine qTake (by kernel_rfl) ?_
          apply Exists.intro
          refine ⟨fun wq hq => ?_, ?_⟩
          · go_light
            obtain ⟨⟨a0, a1, a2, a3⟩, ⟨b0, b1, b2, b3⟩, c0, hg⟩ := hq
            go_simp
            try with_reducible rfl
            done
          try simp only [Act.put, List.setIfInBounds_toArray, List.set_cons_zero, List.set_cons_succ]
        refine qNil ?_
        rintro w3 ⟨-, -, -, hg3⟩
        have HG3 := Lib.hid (HG.out.trans hg3)
        clear hg3
        go_wp2_with fail
        go_ret
        exact ⟨by rw [HE.out]; rfl, HG3.out⟩
      · have hse : ((aboutT p).toList == (aboutT o).toList) = true := hs
        have HE : Hid (r = true) := Lib.hid (by rw [HR.out]; unfold seesB; rw [hd, hq, hs]; rfl)
        clear HR
        refine qRegion (fun w' => TCell w' w.heap.size 0 p ∧ TCell w' PO 0 o ∧ w'.cell? ⟨PK, 0, none⟩ = some (.int .i64 p.kind) ∧ Gr W w') (by kernel_rfl) (by kernel_rfl) ⟨TCell.gr HP.out (Gr.refl _).drew, TCell.gr HO.out (Gr.refl _).drew, (Gr.refl _).drew.cell HK.out, (Gr.refl _).drew⟩ ?_
        iterate 13
          refine qTake (by kernel_rfl) ?_
          apply Exists.intro
          refine ⟨fun wq hq => ?_, ?_⟩
          · go_light
            obtain ⟨⟨a0, a1, a2, a3⟩, ⟨b0, b1, b2, b3⟩, c0, hg⟩ := hq
            go_simp
            try with_reducible rfl
            done
          try simp only [Act.put, List.setIfInBounds_toArray, List.set_cons_zero, List.set_cons_succ]
        refine qCall (by kernel_rfl) ?_
        apply Exists.intro
        refine ⟨?_, ?_⟩
        · apply Exists.intro
          apply Exists.intro
          refine ⟨fun wq => ?_, fun wq hq => ?_⟩
          · go_light
            go_simp
            exact ⟨rfl, rfl⟩
          · exact (HA.out p wq).mono fun e w'' ⟨he, hg⟩ => ⟨he, TCell.gr hq.1 hg, TCell.gr hq.2.1 hg, hg.cell hq.2.2.1, hq.2.2.2.trans hg⟩
        try simp only [Act.put, List.setIfInBounds_toArray, List.set_cons_zero, List.set_cons_succ]
        iterate 1
          refine qTake (by kernel_rfl) ?_
          apply Exists.intro
          refine ⟨fun wq hq => ?_, ?_⟩
          · go_light
            obtain ⟨⟨a0, a1, a2, a3⟩, ⟨b0, b1, b2, b3⟩, c0, hg⟩ := hq
            go_simp
            try with_reducible rfl
            done
          try simp only [Act.put, List.setIfInBounds_toArray, List.set_cons_zero, List.set_cons_succ]
        refine qCall (by kernel_rfl) ?_
        apply Exists.intro
        refine ⟨?_, ?_⟩
        · apply Exists.intro
          apply Exists.intro
          refine ⟨fun wq => ?_, fun wq hq => ?_⟩
          · go_light
            go_simp
            exact ⟨rfl, rfl⟩
          · exact (HA.out o wq).mono fun e w'' ⟨he, hg⟩ => ⟨he, TCell.gr hq.1 hg, TCell.gr hq.2.1 hg, hg.cell hq.2.2.1, hq.2.2.2.trans hg⟩
        try simp only [Act.put, List.setIfInBounds_toArray, List.set_cons_zero, List.set_cons_succ]
        iterate 3
          refine qTake (by kernel_rfl) ?_
          apply Exists.intro
          refine ⟨fun wq hq => ?_, ?_⟩
          · go_light
            obtain ⟨⟨a0, a1, a2, a3⟩, ⟨b0, b1, b2, b3⟩, c0, hg⟩ := hq
            go_simp
            try with_reducible rfl
            done
          try simp only [Act.put, List.setIfInBounds_toArray, List.set_cons_zero, List.set_cons_succ]
        refine qNil ?_
        rintro w3 ⟨-, -, -, hg3⟩
        have HG3 := Lib.hid (HG.out.trans hg3)
        clear hg3
        go_wp2_with fail
        go_ret
        exact ⟨by rw [HE.out]; rfl, HG3.out⟩
  · have hd : decide (p.kind = k) = false := decide_eq_false hk
    have hd2 : (p.kind == k) = false := beq_eq_false_iff_ne.2 hk
    have HE : Hid (r = false) := Lib.hid (by rw [HR.out]; unfold seesB; rw [hd]; rfl)
    clear HR
    refine qRegion (fun w' => TCell w' w.heap.size 0 p ∧ TCell w' PO 0 o ∧ w'.cell? ⟨PK, 0, none⟩ = some (.int .i64 k) ∧ Gr W w') (by kernel_rfl) (by kernel_rfl) ⟨TCell.gr HP.out (Gr.refl _).drew, TCell.gr HO.out (Gr.refl _).drew, (Gr.refl _).drew.cell HK.out, (Gr.refl _).drew⟩ ?_
    iterate 5
      refine qTake (by kernel_rfl) ?_
      apply Exists.intro
      refine ⟨fun wq hq => ?_, ?_⟩
      · go_light
        obtain ⟨⟨a0, a1, a2, a3⟩, ⟨b0, b1, b2, b3⟩, c0, hg⟩ := hq
        go_simp
        try with_reducible rfl
        done
      try simp only [Act.put, List.setIfInBounds_toArray, List.set_cons_zero, List.set_cons_succ]
    iterate 5
      refine qSkip (by kernel_rfl) ?_
      try simp only [Act.put, List.setIfInBounds_toArray, List.set_cons_zero, List.set_cons_succ]
    iterate 2
      refine qTake (by kernel_rfl) ?_
      apply Exists.intro
      refine ⟨fun wq hq => ?_, ?_⟩
      · go_light
        obtain ⟨⟨a0, a1, a2, a3⟩, ⟨b0, b1, b2, b3⟩, c0, hg⟩ := hq
        go_simp
        try with_reducible rfl
        done
      try simp only [Act.put, List.setIfInBounds_toArray, List.set_cons_zero, List.set_cons_succ]
    iterate 5
      refine qSkip (by kernel_rfl) ?_
      try simp only [Act.put, List.setIfInBounds_toArray, List.set_cons_zero, List.set_cons_succ]
    iterate 2
      refine qTake (by kernel_rfl) ?_
      apply Exists.intro
      refine ⟨fun wq hq => ?_, ?_⟩
      · go_light
        obtain ⟨⟨a0, a1, a2, a3⟩, ⟨b0, b1, b2, b3⟩, c0, hg⟩ := hq
        go_simp
        try with_reducible rfl
        done
      try simp only [Act.put, List.setIfInBounds_toArray, List.set_cons_zero, List.set_cons_succ]
    refine qNil ?_
    rintro w3 ⟨-, -, -, hg3⟩
    have HG3 := Lib.hid (HG.out.trans hg3)
    clear hg3
    go_wp2_with fail
    go_ret
    exact ⟨by rw [HE.out]; rfl, HG3.out⟩
end Go.Proofs.YtnjmgknicffcbaaGreatDoor
