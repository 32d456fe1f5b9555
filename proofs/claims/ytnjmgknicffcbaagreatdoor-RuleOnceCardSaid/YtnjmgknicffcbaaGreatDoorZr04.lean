/- Walks: which operations may be: the program's and the document's Op. -/
import Derived.Test.YtnjmgknicffcbaaGreatDoorZr03
namespace Go.Proofs.YtnjmgknicffcbaaGreatDoor
open Go.RowKit

/-- May the operation be one of the member's? -/
def okOp (o : TO) (m : Int) : Prop :=
  keyS o.key = true ∧ o.elem.size ≤ 32 ∧
    (((o.kind = 1 ∨ o.kind = 2) ∧ amtB o.n = true ∧ o.elem.size = 0) ∨ (o.kind = 3 ∧ amtB o.n = true ∧ 0 ≤ memberZ o.elem ∧ memberZ o.elem ≠ m) ∨ ((o.kind = 4 ∨ o.kind = 5 ∨ o.kind = 6) ∧ o.n = 0) ∨ ((o.kind = 7 ∨ o.kind = 8) ∧ o.n = 0 ∧ o.elem.size = 0))
instance (o : TO) (m : Int) : Decidable (okOp o m) := by unfold okOp; infer_instance
def opB (o : TO) (m : Int) : Bool := decide (okOp o m)
theorem amtB_yes {n : Int} (h : amtB n = true) : 1 ≤ n ∧ n ≤ 1099511627776 := of_decide_eq_true h
theorem amtB_no {n : Int} (h : amtB n = false) : ¬ (1 ≤ n ∧ n ≤ 1099511627776) := of_decide_eq_false h

set_option maxRecDepth 100000 in
set_option maxHeartbeats 4000000 in
theorem op8_any (o : TO) (m : Int) (hk : o.key.size ≤ 9223372036854775807) (w : World) :
    Calls Tryz.prog 117 #[.agg (tovs o), .int .i64 m] w fun e w' => e = .returned (.bool (opB o m)) ∧ Gr w w' := by
  have HK := Lib.hid (fun w => key8_any o.key hk w)
  have HM := Lib.hid (fun w => member8_any o.elem w)
  obtain ⟨kd, key, elem, n⟩ := o
  unfold tovs
  simp only [] at HK HM ⊢
  clear hk
  rcases hq : keyS key with _ | _
  · rw [hq] at HK
    have HF := Lib.hid (show opB ⟨kd, key, elem, n⟩ m = false from decide_eq_false (fun h => by have := h.1; simp only [] at this; rw [hq] at this; cases this))
    clear hq
    go_enter Tryz.func117, Tryz.ntmps117
    go_wp2_with fail
    refine (HK.out _).mono ?_
    rintro e w1 ⟨rfl, rfl⟩
    go_wp2_with fail
    go_ret
    exact ⟨by rw [HF.out]; rfl, (Gr.refl _).alloc _⟩
  rw [hq] at HK
  by_cases hz : 32 < elem.size
  · have HF := Lib.hid (show opB ⟨kd, key, elem, n⟩ m = false from decide_eq_false (fun h => by have := h.2.1; simp only [] at this; omega))
    clear hq
    go_enter Tryz.func117, Tryz.ntmps117
    go_wp2_with fail
    refine (HK.out _).mono ?_
    rintro e w1 ⟨rfl, rfl⟩
    go_wp2_with fail
    go_ret
    exact ⟨by rw [HF.out]; rfl, (Gr.refl _).alloc _⟩
  have HQ := Lib.hid hq
  have HZ := Lib.hid hz
  clear hq
  by_cases hk1 : kd = 1
  · subst hk1
    rcases ha : amtB n with _ | _
    · have HF := Lib.hid (show opB ⟨1, key, elem, n⟩ m = false from decide_eq_false (fun h => by have := h.2.2; simp only [] at this; rw [ha] at this; simp at this))
      have HA := Lib.hid (fun w => amount_any n w)
      rw [ha] at HA
      clear ha
      go_enter Tryz.func117, Tryz.ntmps117
      go_wp2_with fail
      refine (HK.out _).mono ?_
      rintro e w1 ⟨rfl, rfl⟩
      go_wp2_with fail
      refine (HA.out _).mono ?_
      rintro e w1 ⟨rfl, rfl⟩
      go_wp2_with fail
      go_ret
      exact ⟨by rw [HF.out]; rfl, (Gr.refl _).alloc _⟩
    · by_cases he : elem.size = 0
      · have t0 := toList_nil he
        have HF := Lib.hid (show opB ⟨1, key, elem, n⟩ m = true from decide_eq_true ⟨HQ.out, Nat.le_of_not_lt HZ.out, .inl ⟨.inl rfl, ha, he⟩⟩)
        have HA := Lib.hid (fun w => amount_any n w)
        rw [ha] at HA
        clear ha he
        go_enter Tryz.func117, Tryz.ntmps117
        go_wp2_with fail
        refine (HK.out _).mono ?_
        rintro e w1 ⟨rfl, rfl⟩
        go_wp2_with fail
        refine (HA.out _).mono ?_
        rintro e w1 ⟨rfl, rfl⟩
        go_wp2_with fail
        go_ret
        exact ⟨by rw [HF.out]; rfl, (Gr.refl _).alloc _⟩
      · have t0 := toList_some he
        have HF := Lib.hid (show opB ⟨1, key, elem, n⟩ m = false from decide_eq_false (fun h => by have := h.2.2; simp only [] at this; simp [he] at this))
        have HA := Lib.hid (fun w => amount_any n w)
        rw [ha] at HA
        clear ha he
        go_enter Tryz.func117, Tryz.ntmps117
        go_wp2_with fail
        refine (HK.out _).mono ?_
        rintro e w1 ⟨rfl, rfl⟩
        go_wp2_with fail
        refine (HA.out _).mono ?_
        rintro e w1 ⟨rfl, rfl⟩
        go_wp2_with fail
        go_ret
        exact ⟨by rw [HF.out]; rfl, (Gr.refl _).alloc _⟩
  have k1 := int_beq_f hk1
  by_cases hk2 : kd = 2
  · subst hk2
    rcases ha : amtB n with _ | _
    · have HF := Lib.hid (show opB ⟨2, key, elem, n⟩ m = false from decide_eq_false (fun h => by have := h.2.2; simp only [] at this; rw [ha] at this; simp at this))
      have HA := Lib.hid (fun w => amount_any n w)
      rw [ha] at HA
      clear ha
      go_enter Tryz.func117, Tryz.ntmps117
      go_wp2_with fail
      refine (HK.out _).mono ?_
      rintro e w1 ⟨rfl, rfl⟩
      go_wp2_with fail
      refine (HA.out _).mono ?_
      rintro e w1 ⟨rfl, rfl⟩
      go_wp2_with fail
      go_ret
      exact ⟨by rw [HF.out]; rfl, (Gr.refl _).alloc _⟩
    · by_cases he : elem.size = 0
      · have t0 := toList_nil he
        have HF := Lib.hid (show opB ⟨2, key, elem, n⟩ m = true from decide_eq_true ⟨HQ.out, Nat.le_of_not_lt HZ.out, .inl ⟨.inr rfl, ha, he⟩⟩)
        have HA := Lib.hid (fun w => amount_any n w)
        rw [ha] at HA
        clear ha he
        go_enter Tryz.func117, Tryz.ntmps117
        go_wp2_with fail
        refine (HK.out _).mono ?_
        rintro e w1 ⟨rfl, rfl⟩
        go_wp2_with fail
        refine (HA.out _).mono ?_
        rintro e w1 ⟨rfl, rfl⟩
        go_wp2_with fail
        go_ret
        exact ⟨by rw [HF.out]; rfl, (Gr.refl _).alloc _⟩
      · have t0 := toList_some he
        have HF := Lib.hid (show opB ⟨2, key, elem, n⟩ m = false from decide_eq_false (fun h => by have := h.2.2; simp only [] at this; simp [he] at this))
        have HA := Lib.hid (fun w => amount_any n w)
        rw [ha] at HA
        clear ha he
        go_enter Tryz.func117, Tryz.ntmps117
        go_wp2_with fail
        refine (HK.out _).mono ?_
        rintro e w1 ⟨rfl, rfl⟩
        go_wp2_with fail
        refine (HA.out _).mono ?_
        rintro e w1 ⟨rfl, rfl⟩
        go_wp2_with fail
        go_ret
        exact ⟨by rw [HF.out]; rfl, (Gr.refl _).alloc _⟩
  have k2 := int_beq_f hk2
  by_cases hk3 : kd = 3
  · subst hk3
    rcases ha : amtB n with _ | _
    · have HF := Lib.hid (show opB ⟨3, key, elem, n⟩ m = false from decide_eq_false (fun h => by have := h.2.2; simp only [] at this; rw [ha] at this; simp at this))
      have HA := Lib.hid (fun w => amount_any n w)
      rw [ha] at HA
      clear ha
      go_enter Tryz.func117, Tryz.ntmps117
      go_wp2_with fail
      refine (HK.out _).mono ?_
      rintro e w1 ⟨rfl, rfl⟩
      go_wp2_with fail
      refine (HM.out _).mono ?_
      rintro e w1 ⟨rfl, rfl⟩
      go_wp2_with fail
      refine (HA.out _).mono ?_
      rintro e w1 ⟨rfl, rfl⟩
      go_wp2_with fail
      go_ret
      exact ⟨by rw [HF.out]; rfl, (Gr.refl _).alloc _⟩
    · obtain ⟨z, hz2⟩ : ∃ z, z = memberZ elem := ⟨_, rfl⟩
      have hr := member_range elem
      rw [← hz2] at HM hr
      by_cases hz0 : 0 ≤ z
      · have e3 : decide (0 ≤ z) = true := decide_eq_true hz0
        by_cases hzm : z = m
        · have t4 := int_bne_f hzm
          have HF := Lib.hid (show opB ⟨3, key, elem, n⟩ m = false from decide_eq_false (fun h => by have := h.2.2; simp only [] at this; rw [← hz2] at this; simp [hzm] at this))
          have HA := Lib.hid (fun w => amount_any n w)
          rw [ha] at HA
          clear ha hz2 hzm hr
          go_enter Tryz.func117, Tryz.ntmps117
          go_wp2_with fail
          refine (HK.out _).mono ?_
          rintro e w1 ⟨rfl, rfl⟩
          go_wp2_with fail
          refine (HM.out _).mono ?_
          rintro e w1 ⟨rfl, rfl⟩
          go_wp2_with fail
          refine (HA.out _).mono ?_
          rintro e w1 ⟨rfl, rfl⟩
          go_wp2_with fail
          go_ret
          exact ⟨by rw [HF.out]; rfl, (Gr.refl _).alloc _⟩
        · have t4 := int_bne_t hzm
          have HF := Lib.hid (show opB ⟨3, key, elem, n⟩ m = true from decide_eq_true ⟨HQ.out, Nat.le_of_not_lt HZ.out, .inr (.inl ⟨rfl, ha, by simp only []; rw [← hz2]; exact hz0, by simp only []; rw [← hz2]; exact hzm⟩)⟩)
          have HA := Lib.hid (fun w => amount_any n w)
          rw [ha] at HA
          clear ha hz2 hzm hr
          go_enter Tryz.func117, Tryz.ntmps117
          go_wp2_with fail
          refine (HK.out _).mono ?_
          rintro e w1 ⟨rfl, rfl⟩
          go_wp2_with fail
          refine (HM.out _).mono ?_
          rintro e w1 ⟨rfl, rfl⟩
          go_wp2_with fail
          refine (HA.out _).mono ?_
          rintro e w1 ⟨rfl, rfl⟩
          go_wp2_with fail
          go_ret
          exact ⟨by rw [HF.out]; rfl, (Gr.refl _).alloc _⟩
      · have e3 : decide (0 ≤ z) = false := decide_eq_false hz0
        have HF := Lib.hid (show opB ⟨3, key, elem, n⟩ m = false from decide_eq_false (fun h => by have := h.2.2; simp only [] at this; rw [← hz2] at this; simp [hz0] at this))
        have HA := Lib.hid (fun w => amount_any n w)
        rw [ha] at HA
        clear ha hz2 hz0 hr
        go_enter Tryz.func117, Tryz.ntmps117
        go_wp2_with fail
        refine (HK.out _).mono ?_
        rintro e w1 ⟨rfl, rfl⟩
        go_wp2_with fail
        refine (HM.out _).mono ?_
        rintro e w1 ⟨rfl, rfl⟩
        go_wp2_with fail
        refine (HA.out _).mono ?_
        rintro e w1 ⟨rfl, rfl⟩
        go_wp2_with fail
        go_ret
        exact ⟨by rw [HF.out]; rfl, (Gr.refl _).alloc _⟩
  have k3 := int_beq_f hk3
  by_cases hk4 : kd = 4
  · subst hk4
    by_cases hn : n = 0
    · have t0 := int_beq_t hn
      have HF := Lib.hid (show opB ⟨4, key, elem, n⟩ m = true from decide_eq_true ⟨HQ.out, Nat.le_of_not_lt HZ.out, .inr (.inr (.inl ⟨.inl rfl, hn⟩))⟩)
      clear hn
      go_enter Tryz.func117, Tryz.ntmps117
      go_wp2_with fail
      refine (HK.out _).mono ?_
      rintro e w1 ⟨rfl, rfl⟩
      go_wp2_with fail
      go_ret
      exact ⟨by rw [HF.out]; rfl, (Gr.refl _).alloc _⟩
    · have t0 := int_beq_f hn
      have HF := Lib.hid (show opB ⟨4, key, elem, n⟩ m = false from decide_eq_false (fun h => by have := h.2.2; simp only [] at this; simp [hn] at this))
      clear hn
      go_enter Tryz.func117, Tryz.ntmps117
      go_wp2_with fail
      refine (HK.out _).mono ?_
      rintro e w1 ⟨rfl, rfl⟩
      go_wp2_with fail
      go_ret
      exact ⟨by rw [HF.out]; rfl, (Gr.refl _).alloc _⟩
  have k4 := int_beq_f hk4
  by_cases hk5 : kd = 5
  · subst hk5
    by_cases hn : n = 0
    · have t0 := int_beq_t hn
      have HF := Lib.hid (show opB ⟨5, key, elem, n⟩ m = true from decide_eq_true ⟨HQ.out, Nat.le_of_not_lt HZ.out, .inr (.inr (.inl ⟨.inr (.inl rfl), hn⟩))⟩)
      clear hn
      go_enter Tryz.func117, Tryz.ntmps117
      go_wp2_with fail
      refine (HK.out _).mono ?_
      rintro e w1 ⟨rfl, rfl⟩
      go_wp2_with fail
      go_ret
      exact ⟨by rw [HF.out]; rfl, (Gr.refl _).alloc _⟩
    · have t0 := int_beq_f hn
      have HF := Lib.hid (show opB ⟨5, key, elem, n⟩ m = false from decide_eq_false (fun h => by have := h.2.2; simp only [] at this; simp [hn] at this))
      clear hn
      go_enter Tryz.func117, Tryz.ntmps117
      go_wp2_with fail
      refine (HK.out _).mono ?_
      rintro e w1 ⟨rfl, rfl⟩
      go_wp2_with fail
      go_ret
      exact ⟨by rw [HF.out]; rfl, (Gr.refl _).alloc _⟩
  have k5 := int_beq_f hk5
  by_cases hk6 : kd = 6
  · subst hk6
    by_cases hn : n = 0
    · have t0 := int_beq_t hn
      have HF := Lib.hid (show opB ⟨6, key, elem, n⟩ m = true from decide_eq_true ⟨HQ.out, Nat.le_of_not_lt HZ.out, .inr (.inr (.inl ⟨.inr (.inr rfl), hn⟩))⟩)
      clear hn
      go_enter Tryz.func117, Tryz.ntmps117
      go_wp2_with fail
      refine (HK.out _).mono ?_
      rintro e w1 ⟨rfl, rfl⟩
      go_wp2_with fail
      go_ret
      exact ⟨by rw [HF.out]; rfl, (Gr.refl _).alloc _⟩
    · have t0 := int_beq_f hn
      have HF := Lib.hid (show opB ⟨6, key, elem, n⟩ m = false from decide_eq_false (fun h => by have := h.2.2; simp only [] at this; simp [hn] at this))
      clear hn
      go_enter Tryz.func117, Tryz.ntmps117
      go_wp2_with fail
      refine (HK.out _).mono ?_
      rintro e w1 ⟨rfl, rfl⟩
      go_wp2_with fail
      go_ret
      exact ⟨by rw [HF.out]; rfl, (Gr.refl _).alloc _⟩
  have k6 := int_beq_f hk6
  by_cases hk7 : kd = 7
  · subst hk7
    by_cases hn : n = 0
    · have t0 := int_beq_t hn
      by_cases he : elem.size = 0
      · have t1 := toList_nil he
        have HF := Lib.hid (show opB ⟨7, key, elem, n⟩ m = true from decide_eq_true ⟨HQ.out, Nat.le_of_not_lt HZ.out, .inr (.inr (.inr ⟨.inl rfl, hn, he⟩))⟩)
        clear hn he
        go_enter Tryz.func117, Tryz.ntmps117
        go_wp2_with fail
        refine (HK.out _).mono ?_
        rintro e w1 ⟨rfl, rfl⟩
        go_wp2_with fail
        go_ret
        exact ⟨by rw [HF.out]; rfl, (Gr.refl _).alloc _⟩
      · have t1 := toList_some he
        have HF := Lib.hid (show opB ⟨7, key, elem, n⟩ m = false from decide_eq_false (fun h => by have := h.2.2; simp only [] at this; simp [he] at this))
        clear hn he
        go_enter Tryz.func117, Tryz.ntmps117
        go_wp2_with fail
        refine (HK.out _).mono ?_
        rintro e w1 ⟨rfl, rfl⟩
        go_wp2_with fail
        go_ret
        exact ⟨by rw [HF.out]; rfl, (Gr.refl _).alloc _⟩
    · have t0 := int_beq_f hn
      have HF := Lib.hid (show opB ⟨7, key, elem, n⟩ m = false from decide_eq_false (fun h => by have := h.2.2; simp only [] at this; simp [hn] at this))
      clear hn
      go_enter Tryz.func117, Tryz.ntmps117
      go_wp2_with fail
      refine (HK.out _).mono ?_
      rintro e w1 ⟨rfl, rfl⟩
      go_wp2_with fail
      go_ret
      exact ⟨by rw [HF.out]; rfl, (Gr.refl _).alloc _⟩
  have k7 := int_beq_f hk7
  by_cases hk8 : kd = 8
  · subst hk8
    by_cases hn : n = 0
    · have t0 := int_beq_t hn
      by_cases he : elem.size = 0
      · have t1 := toList_nil he
        have HF := Lib.hid (show opB ⟨8, key, elem, n⟩ m = true from decide_eq_true ⟨HQ.out, Nat.le_of_not_lt HZ.out, .inr (.inr (.inr ⟨.inr rfl, hn, he⟩))⟩)
        clear hn he
        go_enter Tryz.func117, Tryz.ntmps117
        go_wp2_with fail
        refine (HK.out _).mono ?_
        rintro e w1 ⟨rfl, rfl⟩
        go_wp2_with fail
        go_ret
        exact ⟨by rw [HF.out]; rfl, (Gr.refl _).alloc _⟩
      · have t1 := toList_some he
        have HF := Lib.hid (show opB ⟨8, key, elem, n⟩ m = false from decide_eq_false (fun h => by have := h.2.2; simp only [] at this; simp [he] at this))
        clear hn he
        go_enter Tryz.func117, Tryz.ntmps117
        go_wp2_with fail
        refine (HK.out _).mono ?_
        rintro e w1 ⟨rfl, rfl⟩
        go_wp2_with fail
        go_ret
        exact ⟨by rw [HF.out]; rfl, (Gr.refl _).alloc _⟩
    · have t0 := int_beq_f hn
      have HF := Lib.hid (show opB ⟨8, key, elem, n⟩ m = false from decide_eq_false (fun h => by have := h.2.2; simp only [] at this; simp [hn] at this))
      clear hn
      go_enter Tryz.func117, Tryz.ntmps117
      go_wp2_with fail
      refine (HK.out _).mono ?_
      rintro e w1 ⟨rfl, rfl⟩
      go_wp2_with fail
      go_ret
      exact ⟨by rw [HF.out]; rfl, (Gr.refl _).alloc _⟩
  have k8 := int_beq_f hk8
  have HF := Lib.hid (show opB ⟨kd, key, elem, n⟩ m = false from decide_eq_false (fun h => by have := h.2.2; simp only [] at this; omega))
  clear hk1 hk2 hk3 hk4 hk5 hk6 hk7 hk8
  go_enter Tryz.func117, Tryz.ntmps117
  go_wp2_with fail
  refine (HK.out _).mono ?_
  rintro e w1 ⟨rfl, rfl⟩
  go_wp2_with fail
  go_ret
  exact ⟨by rw [HF.out]; rfl, (Gr.refl _).alloc _⟩
set_option maxRecDepth 100000 in
set_option maxHeartbeats 4000000 in
theorem rop8_any (o : TO) (m : Int) (hk : o.key.size ≤ 9223372036854775807) (w : World) :
    Calls Tryz.prog 86 #[.agg (tovs o), .int .i64 m] w fun e w' => e = .returned (.bool (opB o m)) ∧ Gr w w' := by
  have HK := Lib.hid (fun w => rkey8_any o.key hk w)
  have HM := Lib.hid (fun w => rmember8_any o.elem w)
  obtain ⟨kd, key, elem, n⟩ := o
  unfold tovs
  simp only [] at HK HM ⊢
  clear hk
  rcases hq : keyS key with _ | _
  · rw [hq] at HK
    have HF := Lib.hid (show opB ⟨kd, key, elem, n⟩ m = false from decide_eq_false (fun h => by have := h.1; simp only [] at this; rw [hq] at this; cases this))
    clear hq
    go_enter Tryz.func86, Tryz.ntmps86
    go_wp2_with fail
    refine (HK.out _).mono ?_
    rintro e w1 ⟨rfl, rfl⟩
    go_wp2_with fail
    go_ret
    exact ⟨by rw [HF.out]; rfl, (Gr.refl _).alloc _⟩
  rw [hq] at HK
  by_cases hz : 32 < elem.size
  · have HF := Lib.hid (show opB ⟨kd, key, elem, n⟩ m = false from decide_eq_false (fun h => by have := h.2.1; simp only [] at this; omega))
    clear hq
    go_enter Tryz.func86, Tryz.ntmps86
    go_wp2_with fail
    refine (HK.out _).mono ?_
    rintro e w1 ⟨rfl, rfl⟩
    go_wp2_with fail
    go_ret
    exact ⟨by rw [HF.out]; rfl, (Gr.refl _).alloc _⟩
  have HQ := Lib.hid hq
  have HZ := Lib.hid hz
  clear hq
  by_cases hk1 : kd = 1
  · subst hk1
    rcases ha : amtB n with _ | _
    · have HF := Lib.hid (show opB ⟨1, key, elem, n⟩ m = false from decide_eq_false (fun h => by have := h.2.2; simp only [] at this; rw [ha] at this; simp at this))
      have hn := amtB_no ha
      clear ha
      go_enter Tryz.func86, Tryz.ntmps86
      go_wp2_with fail
      refine (HK.out _).mono ?_
      rintro e w1 ⟨rfl, rfl⟩
      go_wp2_with fail
      all_goals first | (exfalso; omega) | skip
      all_goals go_ret
      all_goals exact ⟨by rw [HF.out]; first | rfl | (simp; omega), (Gr.refl _).alloc _⟩
    · by_cases he : elem.size = 0
      · have t0 := toList_nil he
        have HF := Lib.hid (show opB ⟨1, key, elem, n⟩ m = true from decide_eq_true ⟨HQ.out, Nat.le_of_not_lt HZ.out, .inl ⟨.inl rfl, ha, he⟩⟩)
        obtain ⟨n1, n2⟩ := amtB_yes ha
        have e1 : decide (1 ≤ n) = true := decide_eq_true n1
        have e2 : decide (n ≤ 1099511627776) = true := decide_eq_true n2
        clear ha he
        go_enter Tryz.func86, Tryz.ntmps86
        go_wp2_with fail
        refine (HK.out _).mono ?_
        rintro e w1 ⟨rfl, rfl⟩
        go_wp2_with fail
        go_ret
        exact ⟨by rw [HF.out]; rfl, (Gr.refl _).alloc _⟩
      · have t0 := toList_some he
        have HF := Lib.hid (show opB ⟨1, key, elem, n⟩ m = false from decide_eq_false (fun h => by have := h.2.2; simp only [] at this; simp [he] at this))
        obtain ⟨n1, n2⟩ := amtB_yes ha
        have e1 : decide (1 ≤ n) = true := decide_eq_true n1
        have e2 : decide (n ≤ 1099511627776) = true := decide_eq_true n2
        clear ha he
        go_enter Tryz.func86, Tryz.ntmps86
        go_wp2_with fail
        refine (HK.out _).mono ?_
        rintro e w1 ⟨rfl, rfl⟩
        go_wp2_with fail
        go_ret
        exact ⟨by rw [HF.out]; rfl, (Gr.refl _).alloc _⟩
  have k1 := int_beq_f hk1
  by_cases hk2 : kd = 2
  · subst hk2
    rcases ha : amtB n with _ | _
    · have HF := Lib.hid (show opB ⟨2, key, elem, n⟩ m = false from decide_eq_false (fun h => by have := h.2.2; simp only [] at this; rw [ha] at this; simp at this))
      have hn := amtB_no ha
      clear ha
      go_enter Tryz.func86, Tryz.ntmps86
      go_wp2_with fail
      refine (HK.out _).mono ?_
      rintro e w1 ⟨rfl, rfl⟩
      go_wp2_with fail
      all_goals first | (exfalso; omega) | skip
      all_goals go_ret
      all_goals exact ⟨by rw [HF.out]; first | rfl | (simp; omega), (Gr.refl _).alloc _⟩
    · by_cases he : elem.size = 0
      · have t0 := toList_nil he
        have HF := Lib.hid (show opB ⟨2, key, elem, n⟩ m = true from decide_eq_true ⟨HQ.out, Nat.le_of_not_lt HZ.out, .inl ⟨.inr rfl, ha, he⟩⟩)
        obtain ⟨n1, n2⟩ := amtB_yes ha
        have e1 : decide (1 ≤ n) = true := decide_eq_true n1
        have e2 : decide (n ≤ 1099511627776) = true := decide_eq_true n2
        clear ha he
        go_enter Tryz.func86, Tryz.ntmps86
        go_wp2_with fail
        refine (HK.out _).mono ?_
        rintro e w1 ⟨rfl, rfl⟩
        go_wp2_with fail
        go_ret
        exact ⟨by rw [HF.out]; rfl, (Gr.refl _).alloc _⟩
      · have t0 := toList_some he
        have HF := Lib.hid (show opB ⟨2, key, elem, n⟩ m = false from decide_eq_false (fun h => by have := h.2.2; simp only [] at this; simp [he] at this))
        obtain ⟨n1, n2⟩ := amtB_yes ha
        have e1 : decide (1 ≤ n) = true := decide_eq_true n1
        have e2 : decide (n ≤ 1099511627776) = true := decide_eq_true n2
        clear ha he
        go_enter Tryz.func86, Tryz.ntmps86
        go_wp2_with fail
        refine (HK.out _).mono ?_
        rintro e w1 ⟨rfl, rfl⟩
        go_wp2_with fail
        go_ret
        exact ⟨by rw [HF.out]; rfl, (Gr.refl _).alloc _⟩
  have k2 := int_beq_f hk2
  by_cases hk3 : kd = 3
  · subst hk3
    rcases ha : amtB n with _ | _
    · have HF := Lib.hid (show opB ⟨3, key, elem, n⟩ m = false from decide_eq_false (fun h => by have := h.2.2; simp only [] at this; rw [ha] at this; simp at this))
      have hn := amtB_no ha
      clear ha
      go_enter Tryz.func86, Tryz.ntmps86
      go_wp2_with fail
      refine (HK.out _).mono ?_
      rintro e w1 ⟨rfl, rfl⟩
      go_wp2_with fail
      refine (HM.out _).mono ?_
      rintro e w1 ⟨rfl, rfl⟩
      go_wp2_with fail
      all_goals first | (exfalso; omega) | skip
      all_goals go_ret
      all_goals exact ⟨by rw [HF.out]; first | rfl | (simp; omega), (Gr.refl _).alloc _⟩
    · obtain ⟨z, hz2⟩ : ∃ z, z = memberZ elem := ⟨_, rfl⟩
      have hr := member_range elem
      rw [← hz2] at HM hr
      by_cases hz0 : 0 ≤ z
      · have e3 : decide (0 ≤ z) = true := decide_eq_true hz0
        by_cases hzm : z = m
        · have t4 := int_bne_f hzm
          have HF := Lib.hid (show opB ⟨3, key, elem, n⟩ m = false from decide_eq_false (fun h => by have := h.2.2; simp only [] at this; rw [← hz2] at this; simp [hzm] at this))
          obtain ⟨n1, n2⟩ := amtB_yes ha
          have e1 : decide (1 ≤ n) = true := decide_eq_true n1
          have e2 : decide (n ≤ 1099511627776) = true := decide_eq_true n2
          clear ha hz2 hzm hr
          go_enter Tryz.func86, Tryz.ntmps86
          go_wp2_with fail
          refine (HK.out _).mono ?_
          rintro e w1 ⟨rfl, rfl⟩
          go_wp2_with fail
          refine (HM.out _).mono ?_
          rintro e w1 ⟨rfl, rfl⟩
          go_wp2_with fail
          go_ret
          exact ⟨by rw [HF.out]; rfl, (Gr.refl _).alloc _⟩
        · have t4 := int_bne_t hzm
          have HF := Lib.hid (show opB ⟨3, key, elem, n⟩ m = true from decide_eq_true ⟨HQ.out, Nat.le_of_not_lt HZ.out, .inr (.inl ⟨rfl, ha, by simp only []; rw [← hz2]; exact hz0, by simp only []; rw [← hz2]; exact hzm⟩)⟩)
          obtain ⟨n1, n2⟩ := amtB_yes ha
          have e1 : decide (1 ≤ n) = true := decide_eq_true n1
          have e2 : decide (n ≤ 1099511627776) = true := decide_eq_true n2
          clear ha hz2 hzm hr
          go_enter Tryz.func86, Tryz.ntmps86
          go_wp2_with fail
          refine (HK.out _).mono ?_
          rintro e w1 ⟨rfl, rfl⟩
          go_wp2_with fail
          refine (HM.out _).mono ?_
          rintro e w1 ⟨rfl, rfl⟩
          go_wp2_with fail
          go_ret
          exact ⟨by rw [HF.out]; rfl, (Gr.refl _).alloc _⟩
      · have e3 : decide (0 ≤ z) = false := decide_eq_false hz0
        have HF := Lib.hid (show opB ⟨3, key, elem, n⟩ m = false from decide_eq_false (fun h => by have := h.2.2; simp only [] at this; rw [← hz2] at this; simp [hz0] at this))
        obtain ⟨n1, n2⟩ := amtB_yes ha
        have e1 : decide (1 ≤ n) = true := decide_eq_true n1
        have e2 : decide (n ≤ 1099511627776) = true := decide_eq_true n2
        clear ha hz2 hz0 hr
        go_enter Tryz.func86, Tryz.ntmps86
        go_wp2_with fail
        refine (HK.out _).mono ?_
        rintro e w1 ⟨rfl, rfl⟩
        go_wp2_with fail
        refine (HM.out _).mono ?_
        rintro e w1 ⟨rfl, rfl⟩
        go_wp2_with fail
        go_ret
        exact ⟨by rw [HF.out]; rfl, (Gr.refl _).alloc _⟩
  have k3 := int_beq_f hk3
  by_cases hk4 : kd = 4
  · subst hk4
    by_cases hn : n = 0
    · have t0 := int_beq_t hn
      have HF := Lib.hid (show opB ⟨4, key, elem, n⟩ m = true from decide_eq_true ⟨HQ.out, Nat.le_of_not_lt HZ.out, .inr (.inr (.inl ⟨.inl rfl, hn⟩))⟩)
      clear hn
      go_enter Tryz.func86, Tryz.ntmps86
      go_wp2_with fail
      refine (HK.out _).mono ?_
      rintro e w1 ⟨rfl, rfl⟩
      go_wp2_with fail
      go_ret
      exact ⟨by rw [HF.out]; rfl, (Gr.refl _).alloc _⟩
    · have t0 := int_beq_f hn
      have HF := Lib.hid (show opB ⟨4, key, elem, n⟩ m = false from decide_eq_false (fun h => by have := h.2.2; simp only [] at this; simp [hn] at this))
      clear hn
      go_enter Tryz.func86, Tryz.ntmps86
      go_wp2_with fail
      refine (HK.out _).mono ?_
      rintro e w1 ⟨rfl, rfl⟩
      go_wp2_with fail
      go_ret
      exact ⟨by rw [HF.out]; rfl, (Gr.refl _).alloc _⟩
  have k4 := int_beq_f hk4
  by_cases hk5 : kd = 5
  · subst hk5
    by_cases hn : n = 0
    · have t0 := int_beq_t hn
      have HF := Lib.hid (show opB ⟨5, key, elem, n⟩ m = true from decide_eq_true ⟨HQ.out, Nat.le_of_not_lt HZ.out, .inr (.inr (.inl ⟨.inr (.inl rfl), hn⟩))⟩)
      clear hn
      go_enter Tryz.func86, Tryz.ntmps86
      go_wp2_with fail
      refine (HK.out _).mono ?_
      rintro e w1 ⟨rfl, rfl⟩
      go_wp2_with fail
      go_ret
      exact ⟨by rw [HF.out]; rfl, (Gr.refl _).alloc _⟩
    · have t0 := int_beq_f hn
      have HF := Lib.hid (show opB ⟨5, key, elem, n⟩ m = false from decide_eq_false (fun h => by have := h.2.2; simp only [] at this; simp [hn] at this))
      clear hn
      go_enter Tryz.func86, Tryz.ntmps86
      go_wp2_with fail
      refine (HK.out _).mono ?_
      rintro e w1 ⟨rfl, rfl⟩
      go_wp2_with fail
      go_ret
      exact ⟨by rw [HF.out]; rfl, (Gr.refl _).alloc _⟩
  have k5 := int_beq_f hk5
  by_cases hk6 : kd = 6
  · subst hk6
    by_cases hn : n = 0
    · have t0 := int_beq_t hn
      have HF := Lib.hid (show opB ⟨6, key, elem, n⟩ m = true from decide_eq_true ⟨HQ.out, Nat.le_of_not_lt HZ.out, .inr (.inr (.inl ⟨.inr (.inr rfl), hn⟩))⟩)
      clear hn
      go_enter Tryz.func86, Tryz.ntmps86
      go_wp2_with fail
      refine (HK.out _).mono ?_
      rintro e w1 ⟨rfl, rfl⟩
      go_wp2_with fail
      go_ret
      exact ⟨by rw [HF.out]; rfl, (Gr.refl _).alloc _⟩
    · have t0 := int_beq_f hn
      have HF := Lib.hid (show opB ⟨6, key, elem, n⟩ m = false from decide_eq_false (fun h => by have := h.2.2; simp only [] at this; simp [hn] at this))
      clear hn
      go_enter Tryz.func86, Tryz.ntmps86
      go_wp2_with fail
      refine (HK.out _).mono ?_
      rintro e w1 ⟨rfl, rfl⟩
      go_wp2_with fail
      go_ret
      exact ⟨by rw [HF.out]; rfl, (Gr.refl _).alloc _⟩
  have k6 := int_beq_f hk6
  by_cases hk7 : kd = 7
  · subst hk7
    by_cases hn : n = 0
    · have t0 := int_beq_t hn
      by_cases he : elem.size = 0
      · have t1 := toList_nil he
        have HF := Lib.hid (show opB ⟨7, key, elem, n⟩ m = true from decide_eq_true ⟨HQ.out, Nat.le_of_not_lt HZ.out, .inr (.inr (.inr ⟨.inl rfl, hn, he⟩))⟩)
        clear hn he
        go_enter Tryz.func86, Tryz.ntmps86
        go_wp2_with fail
        refine (HK.out _).mono ?_
        rintro e w1 ⟨rfl, rfl⟩
        go_wp2_with fail
        go_ret
        exact ⟨by rw [HF.out]; rfl, (Gr.refl _).alloc _⟩
      · have t1 := toList_some he
        have HF := Lib.hid (show opB ⟨7, key, elem, n⟩ m = false from decide_eq_false (fun h => by have := h.2.2; simp only [] at this; simp [he] at this))
        clear hn he
        go_enter Tryz.func86, Tryz.ntmps86
        go_wp2_with fail
        refine (HK.out _).mono ?_
        rintro e w1 ⟨rfl, rfl⟩
        go_wp2_with fail
        go_ret
        exact ⟨by rw [HF.out]; rfl, (Gr.refl _).alloc _⟩
    · have t0 := int_beq_f hn
      have HF := Lib.hid (show opB ⟨7, key, elem, n⟩ m = false from decide_eq_false (fun h => by have := h.2.2; simp only [] at this; simp [hn] at this))
      clear hn
      go_enter Tryz.func86, Tryz.ntmps86
      go_wp2_with fail
      refine (HK.out _).mono ?_
      rintro e w1 ⟨rfl, rfl⟩
      go_wp2_with fail
      go_ret
      exact ⟨by rw [HF.out]; rfl, (Gr.refl _).alloc _⟩
  have k7 := int_beq_f hk7
  by_cases hk8 : kd = 8
  · subst hk8
    by_cases hn : n = 0
    · have t0 := int_beq_t hn
      by_cases he : elem.size = 0
      · have t1 := toList_nil he
        have HF := Lib.hid (show opB ⟨8, key, elem, n⟩ m = true from decide_eq_true ⟨HQ.out, Nat.le_of_not_lt HZ.out, .inr (.inr (.inr ⟨.inr rfl, hn, he⟩))⟩)
        clear hn he
        go_enter Tryz.func86, Tryz.ntmps86
        go_wp2_with fail
        refine (HK.out _).mono ?_
        rintro e w1 ⟨rfl, rfl⟩
        go_wp2_with fail
        go_ret
        exact ⟨by rw [HF.out]; rfl, (Gr.refl _).alloc _⟩
      · have t1 := toList_some he
        have HF := Lib.hid (show opB ⟨8, key, elem, n⟩ m = false from decide_eq_false (fun h => by have := h.2.2; simp only [] at this; simp [he] at this))
        clear hn he
        go_enter Tryz.func86, Tryz.ntmps86
        go_wp2_with fail
        refine (HK.out _).mono ?_
        rintro e w1 ⟨rfl, rfl⟩
        go_wp2_with fail
        go_ret
        exact ⟨by rw [HF.out]; rfl, (Gr.refl _).alloc _⟩
    · have t0 := int_beq_f hn
      have HF := Lib.hid (show opB ⟨8, key, elem, n⟩ m = false from decide_eq_false (fun h => by have := h.2.2; simp only [] at this; simp [hn] at this))
      clear hn
      go_enter Tryz.func86, Tryz.ntmps86
      go_wp2_with fail
      refine (HK.out _).mono ?_
      rintro e w1 ⟨rfl, rfl⟩
      go_wp2_with fail
      go_ret
      exact ⟨by rw [HF.out]; rfl, (Gr.refl _).alloc _⟩
  have k8 := int_beq_f hk8
  have HF := Lib.hid (show opB ⟨kd, key, elem, n⟩ m = false from decide_eq_false (fun h => by have := h.2.2; simp only [] at this; omega))
  clear hk1 hk2 hk3 hk4 hk5 hk6 hk7 hk8
  go_enter Tryz.func86, Tryz.ntmps86
  go_wp2_with fail
  refine (HK.out _).mono ?_
  rintro e w1 ⟨rfl, rfl⟩
  go_wp2_with fail
  go_ret
  exact ⟨by rw [HF.out]; rfl, (Gr.refl _).alloc _⟩
end Go.Proofs.YtnjmgknicffcbaaGreatDoor
