/- Texts TxF, TxE, TxG, joined. -/
import Derived.Test.YtlihcjlonafohaaG03
import Derived.Test.YtlihcjlonafohaaG02
/- Walks: which operations may be: the program's and the document's Op. -/
namespace Go.Proofs.Ytlihcjlonafohaa
open Go.RowKit

/-- May the operation be one of the member's? -/
def okOp (o : TO) (m : Int) : Prop :=
  keyS o.key = true ∧ o.elem.size ≤ 32 ∧
    (((o.kind = 1 ∨ o.kind = 2) ∧ amtB o.n = true ∧ o.elem.size = 0) ∨ (o.kind = 3 ∧ amtB o.n = true ∧ 0 ≤ memberZ o.elem ∧ memberZ o.elem ≠ m) ∨ ((o.kind = 4 ∨ o.kind = 5 ∨ o.kind = 6) ∧ o.n = 0) ∨ ((o.kind = 7 ∨ o.kind = 8) ∧ o.n = 0 ∧ o.elem.size = 0))
instance (o : TO) (m : Int) : Decidable (okOp o m) := by unfold okOp; infer_instance
def opB (o : TO) (m : Int) : Bool := decide (okOp o m)
theorem amtB_yes {n : Int} (h : amtB n = true) : 1 ≤ n ∧ n ≤ 1099511627776 := of_decide_eq_true h
theorem amtB_no {n : Int} (h : amtB n = false) : ¬ (1 ≤ n ∧ n ≤ 1099511627776) := of_decide_eq_false h

set_option maxRecDepth 100000 in
set_option maxHeartbeats 4000000 in
theorem op8_any (o : TO) (m : Int) (hk : o.key.size ≤ 9223372036854775807) (w : World) :
    Calls Try.prog 30 #[.agg (tovs o), .int .i64 m] w fun e w' => e = .returned (.bool (opB o m)) ∧ Gr w w' := by
  have HK := Lib.hid (fun w => key8_any o.key hk w)
  have HM := Lib.hid (fun w => member8_any o.elem w)
  obtain ⟨kd, key, elem, n⟩ := o
  unfold tovs
  simp only [] at HK HM ⊢
  clear hk
  rcases hq : keyS key with _ | _
  · rw [hq] at HK
    have HF := Lib.hid (show opB ⟨kd, key, elem, n⟩ m = false from decide_eq_false (fun h => by have := h.1; simp only [] at this; rw [hq] at this; cases this))
    clear hq
    go_enter Try.func30, Try.ntmps30
    go_wp2_with fail
    refine (HK.out _).mono ?_
    rintro e w1 ⟨rfl, rfl⟩
    go_wp2_with fail
    go_ret
    exact ⟨by rw [HF.out]; rfl, (Gr.refl _).alloc _⟩
  rw [hq] at HK
  by_cases hz : 32 < elem.size
  · have HF := Lib.hid (show opB ⟨kd, key, elem, n⟩ m = false from decide_eq_false (fun h => by have := h.2.1; simp only [] at this; omega))
    clear hq
    go_enter Try.func30, Try.ntmps30
    go_wp2_with fail
    refine (HK.out _).mono ?_
    rintro e w1 ⟨rfl, rfl⟩
    go_wp2_with fail
    go_ret
    exact ⟨by rw [HF.out]; rfl, (Gr.refl _).alloc _⟩
  have HQ := Lib.hid hq
  have HZ := Lib.hid hz
  clear hq
  by_cases hk1 : kd = 1
  · subst hk1
    rcases ha : amtB n with _ | _
    · have HF := Lib.hid (show opB ⟨1, key, elem, n⟩ m = false from decide_eq_false (fun h => by have := h.2.2; simp only [] at this; rw [ha] at this; simp at this))
      have HA := Lib.hid (fun w => amount_any n w)
      rw [ha] at HA
      clear ha
      go_enter Try.func30, Try.ntmps30
      go_wp2_with fail
      refine (HK.out _).mono ?_
      rintro e w1 ⟨rfl, rfl⟩
      go_wp2_with fail
      refine (HA.out _).mono ?_
      rintro e w1 ⟨rfl, rfl⟩
      go_wp2_with fail
      go_ret
      exact ⟨by rw [HF.out]; rfl, (Gr.refl _).alloc _⟩
    · by_cases he : elem.size = 0
      · have t0 := toList_nil he
        have HF := Lib.hid (show opB ⟨1, key, elem, n⟩ m = true from decide_eq_true ⟨HQ.out, Nat.le_of_not_lt HZ.out, .inl ⟨.inl rfl, ha, he⟩⟩)
        have HA := Lib.hid (fun w => amount_any n w)
        rw [ha] at HA
        clear ha he
        go_enter Try.func30, Try.ntmps30
        go_wp2_with fail
        refine (HK.out _).mono ?_
        rintro e w1 ⟨rfl, rfl⟩
        go_wp2_with fail
        refine (HA.out _).mono ?_
        rintro e w1 ⟨rfl, rfl⟩
        go_wp2_with fail
        go_ret
        exact ⟨by rw [HF.out]; rfl, (Gr.refl _).alloc _⟩
      · have t0 := toList_some he
        have HF := Lib.hid (show opB ⟨1, key, elem, n⟩ m = false from decide_eq_false (fun h => by have := h.2.2; simp only [] at this; simp [he] at this))
        have HA := Lib.hid (fun w => amount_any n w)
        rw [ha] at HA
        clear ha he
        go_enter Try.func30, Try.ntmps30
        go_wp2_with fail
        refine (HK.out _).mono ?_
        rintro e w1 ⟨rfl, rfl⟩
        go_wp2_with fail
        refine (HA.out _).mono ?_
        rintro e w1 ⟨rfl, rfl⟩
        go_wp2_with fail
        go_ret
        exact ⟨by rw [HF.out]; rfl, (Gr.refl _).alloc _⟩
  have k1 := int_beq_f hk1
  by_cases hk2 : kd = 2
  · subst hk2
    rcases ha : amtB n with _ | _
    · have HF := Lib.hid (show opB ⟨2, key, elem, n⟩ m = false from decide_eq_false (fun h => by have := h.2.2; simp only [] at this; rw [ha] at this; simp at this))
      have HA := Lib.hid (fun w => amount_any n w)
      rw [ha] at HA
      clear ha
      go_enter Try.func30, Try.ntmps30
      go_wp2_with fail
      refine (HK.out _).mono ?_
      rintro e w1 ⟨rfl, rfl⟩
      go_wp2_with fail
      refine (HA.out _).mono ?_
      rintro e w1 ⟨rfl, rfl⟩
      go_wp2_with fail
      go_ret
      exact ⟨by rw [HF.out]; rfl, (Gr.refl _).alloc _⟩
    · by_cases he : elem.size = 0
      · have t0 := toList_nil he
        have HF := Lib.hid (show opB ⟨2, key, elem, n⟩ m = true from decide_eq_true ⟨HQ.out, Nat.le_of_not_lt HZ.out, .inl ⟨.inr rfl, ha, he⟩⟩)
        have HA := Lib.hid (fun w => amount_any n w)
        rw [ha] at HA
        clear ha he
        go_enter Try.func30, Try.ntmps30
        go_wp2_with fail
        refine (HK.out _).mono ?_
        rintro e w1 ⟨rfl, rfl⟩
        go_wp2_with fail
        refine (HA.out _).mono ?_
        rintro e w1 ⟨rfl, rfl⟩
        go_wp2_with fail
        go_ret
        exact ⟨by rw [HF.out]; rfl, (Gr.refl _).alloc _⟩
      · have t0 := toList_some he
        have HF := Lib.hid (show opB ⟨2, key, elem, n⟩ m = false from decide_eq_false (fun h => by have := h.2.2; simp only [] at this; simp [he] at this))
        have HA := Lib.hid (fun w => amount_any n w)
        rw [ha] at HA
        clear ha he
        go_enter Try.func30, Try.ntmps30
        go_wp2_with fail
        refine (HK.out _).mono ?_
        rintro e w1 ⟨rfl, rfl⟩
        go_wp2_with fail
        refine (HA.out _).mono ?_
        rintro e w1 ⟨rfl, rfl⟩
        go_wp2_with fail
        go_ret
        exact ⟨by rw [HF.out]; rfl, (Gr.refl _).alloc _⟩
  have k2 := int_beq_f hk2
  by_cases hk3 : kd = 3
  · subst hk3
    rcases ha : amtB n with _ | _
    · have HF := Lib.hid (show opB ⟨3, key, elem, n⟩ m = false from decide_eq_false (fun h => by have := h.2.2; simp only [] at this; rw [ha] at this; simp at this))
      have HA := Lib.hid (fun w => amount_any n w)
      rw [ha] at HA
      clear ha
      go_enter Try.func30, Try.ntmps30
      go_wp2_with fail
      refine (HK.out _).mono ?_
      rintro e w1 ⟨rfl, rfl⟩
      go_wp2_with fail
      refine (HM.out _).mono ?_
      rintro e w1 ⟨rfl, rfl⟩
      go_wp2_with fail
      refine (HA.out _).mono ?_
      rintro e w1 ⟨rfl, rfl⟩
      go_wp2_with fail
      go_ret
      exact ⟨by rw [HF.out]; rfl, (Gr.refl _).alloc _⟩
    · obtain ⟨z, hz2⟩ : ∃ z, z = memberZ elem := ⟨_, rfl⟩
      have hr := member_range elem
      rw [← hz2] at HM hr
      by_cases hz0 : 0 ≤ z
      · have e3 : decide (0 ≤ z) = true := decide_eq_true hz0
        by_cases hzm : z = m
        · have t4 := int_bne_f hzm
          have HF := Lib.hid (show opB ⟨3, key, elem, n⟩ m = false from decide_eq_false (fun h => by have := h.2.2; simp only [] at this; rw [← hz2] at this; simp [hzm] at this))
          have HA := Lib.hid (fun w => amount_any n w)
          rw [ha] at HA
          clear ha hz2 hzm hr
          go_enter Try.func30, Try.ntmps30
          go_wp2_with fail
          refine (HK.out _).mono ?_
          rintro e w1 ⟨rfl, rfl⟩
          go_wp2_with fail
          refine (HM.out _).mono ?_
          rintro e w1 ⟨rfl, rfl⟩
          go_wp2_with fail
          refine (HA.out _).mono ?_
          rintro e w1 ⟨rfl, rfl⟩
          go_wp2_with fail
          go_ret
          exact ⟨by rw [HF.out]; rfl, (Gr.refl _).alloc _⟩
        · have t4 := int_bne_t hzm
          have HF := Lib.hid (show opB ⟨3, key, elem, n⟩ m = true from decide_eq_true ⟨HQ.out, Nat.le_of_not_lt HZ.out, .inr (.inl ⟨rfl, ha, by simp only []; rw [← hz2]; exact hz0, by simp only []; rw [← hz2]; exact hzm⟩)⟩)
          have HA := Lib.hid (fun w => amount_any n w)
          rw [ha] at HA
          clear ha hz2 hzm hr
          go_enter Try.func30, Try.ntmps30
          go_wp2_with fail
          refine (HK.out _).mono ?_
          rintro e w1 ⟨rfl, rfl⟩
          go_wp2_with fail
          refine (HM.out _).mono ?_
          rintro e w1 ⟨rfl, rfl⟩
          go_wp2_with fail
          refine (HA.out _).mono ?_
          rintro e w1 ⟨rfl, rfl⟩
          go_wp2_with fail
          go_ret
          exact ⟨by rw [HF.out]; rfl, (Gr.refl _).alloc _⟩
      · have e3 : decide (0 ≤ z) = false := decide_eq_false hz0
        have HF := Lib.hid (show opB ⟨3, key, elem, n⟩ m = false from decide_eq_false (fun h => by have := h.2.2; simp only [] at this; rw [← hz2] at this; simp [hz0] at this))
        have HA := Lib.hid (fun w => amount_any n w)
        rw [ha] at HA
        clear ha hz2 hz0 hr
        go_enter Try.func30, Try.ntmps30
        go_wp2_with fail
        refine (HK.out _).mono ?_
        rintro e w1 ⟨rfl, rfl⟩
        go_wp2_with fail
        refine (HM.out _).mono ?_
        rintro e w1 ⟨rfl, rfl⟩
        go_wp2_with fail
        refine (HA.out _).mono ?_
        rintro e w1 ⟨rfl, rfl⟩
        go_wp2_with fail
        go_ret
        exact ⟨by rw [HF.out]; rfl, (Gr.refl _).alloc _⟩
  have k3 := int_beq_f hk3
  by_cases hk4 : kd = 4
  · subst hk4
    by_cases hn : n = 0
    · have t0 := int_beq_t hn
      have HF := Lib.hid (show opB ⟨4, key, elem, n⟩ m = true from decide_eq_true ⟨HQ.out, Nat.le_of_not_lt HZ.out, .inr (.inr (.inl ⟨.inl rfl, hn⟩))⟩)
      clear hn
      go_enter Try.func30, Try.ntmps30
      go_wp2_with fail
      refine (HK.out _).mono ?_
      rintro e w1 ⟨rfl, rfl⟩
      go_wp2_with fail
      go_ret
      exact ⟨by rw [HF.out]; rfl, (Gr.refl _).alloc _⟩
    · have t0 := int_beq_f hn
      have HF := Lib.hid (show opB ⟨4, key, elem, n⟩ m = false from decide_eq_false (fun h => by have := h.2.2; simp only [] at this; simp [hn] at this))
      clear hn
      go_enter Try.func30, Try.ntmps30
      go_wp2_with fail
      refine (HK.out _).mono ?_
      rintro e w1 ⟨rfl, rfl⟩
      go_wp2_with fail
      go_ret
      exact ⟨by rw [HF.out]; rfl, (Gr.refl _).alloc _⟩
  have k4 := int_beq_f hk4
  by_cases hk5 : kd = 5
  · subst hk5
    by_cases hn : n = 0
    · have t0 := int_beq_t hn
      have HF := Lib.hid (show opB ⟨5, key, elem, n⟩ m = true from decide_eq_true ⟨HQ.out, Nat.le_of_not_lt HZ.out, .inr (.inr (.inl ⟨.inr (.inl rfl), hn⟩))⟩)
      clear hn
      go_enter Try.func30, Try.ntmps30
      go_wp2_with fail
      refine (HK.out _).mono ?_
      rintro e w1 ⟨rfl, rfl⟩
      go_wp2_with fail
      go_ret
      exact ⟨by rw [HF.out]; rfl, (Gr.refl _).alloc _⟩
    · have t0 := int_beq_f hn
      have HF := Lib.hid (show opB ⟨5, key, elem, n⟩ m = false from decide_eq_false (fun h => by have := h.2.2; simp only [] at this; simp [hn] at this))
      clear hn
      go_enter Try.func30, Try.ntmps30
      go_wp2_with fail
      refine (HK.out _).mono ?_
      rintro e w1 ⟨rfl, rfl⟩
      go_wp2_with fail
      go_ret
      exact ⟨by rw [HF.out]; rfl, (Gr.refl _).alloc _⟩
  have k5 := int_beq_f hk5
  by_cases hk6 : kd = 6
  · subst hk6
    by_cases hn : n = 0
    · have t0 := int_beq_t hn
      have HF := Lib.hid (show opB ⟨6, key, elem, n⟩ m = true from decide_eq_true ⟨HQ.out, Nat.le_of_not_lt HZ.out, .inr (.inr (.inl ⟨.inr (.inr rfl), hn⟩))⟩)
      clear hn
      go_enter Try.func30, Try.ntmps30
      go_wp2_with fail
      refine (HK.out _).mono ?_
      rintro e w1 ⟨rfl, rfl⟩
      go_wp2_with fail
      go_ret
      exact ⟨by rw [HF.out]; rfl, (Gr.refl _).alloc _⟩
    · have t0 := int_beq_f hn
      have HF := Lib.hid (show opB ⟨6, key, elem, n⟩ m = false from decide_eq_false (fun h => by have := h.2.2; simp only [] at this; simp [hn] at this))
      clear hn
      go_enter Try.func30, Try.ntmps30
      go_wp2_with fail
      refine (HK.out _).mono ?_
      rintro e w1 ⟨rfl, rfl⟩
      go_wp2_with fail
      go_ret
      exact ⟨by rw [HF.out]; rfl, (Gr.refl _).alloc _⟩
  have k6 := int_beq_f hk6
  by_cases hk7 : kd = 7
  · subst hk7
    by_cases hn : n = 0
    · have t0 := int_beq_t hn
      by_cases he : elem.size = 0
      · have t1 := toList_nil he
        have HF := Lib.hid (show opB ⟨7, key, elem, n⟩ m = true from decide_eq_true ⟨HQ.out, Nat.le_of_not_lt HZ.out, .inr (.inr (.inr ⟨.inl rfl, hn, he⟩))⟩)
        clear hn he
        go_enter Try.func30, Try.ntmps30
        go_wp2_with fail
        refine (HK.out _).mono ?_
        rintro e w1 ⟨rfl, rfl⟩
        go_wp2_with fail
        go_ret
        exact ⟨by rw [HF.out]; rfl, (Gr.refl _).alloc _⟩
      · have t1 := toList_some he
        have HF := Lib.hid (show opB ⟨7, key, elem, n⟩ m = false from decide_eq_false (fun h => by have := h.2.2; simp only [] at this; simp [he] at this))
        clear hn he
        go_enter Try.func30, Try.ntmps30
        go_wp2_with fail
        refine (HK.out _).mono ?_
        rintro e w1 ⟨rfl, rfl⟩
        go_wp2_with fail
        go_ret
        exact ⟨by rw [HF.out]; rfl, (Gr.refl _).alloc _⟩
    · have t0 := int_beq_f hn
      have HF := Lib.hid (show opB ⟨7, key, elem, n⟩ m = false from decide_eq_false (fun h => by have := h.2.2; simp only [] at this; simp [hn] at this))
      clear hn
      go_enter Try.func30, Try.ntmps30
      go_wp2_with fail
      refine (HK.out _).mono ?_
      rintro e w1 ⟨rfl, rfl⟩
      go_wp2_with fail
      go_ret
      exact ⟨by rw [HF.out]; rfl, (Gr.refl _).alloc _⟩
  have k7 := int_beq_f hk7
  by_cases hk8 : kd = 8
  · subst hk8
    by_cases hn : n = 0
    · have t0 := int_beq_t hn
      by_cases he : elem.size = 0
      · have t1 := toList_nil he
        have HF := Lib.hid (show opB ⟨8, key, elem, n⟩ m = true from decide_eq_true ⟨HQ.out, Nat.le_of_not_lt HZ.out, .inr (.inr (.inr ⟨.inr rfl, hn, he⟩))⟩)
        clear hn he
        go_enter Try.func30, Try.ntmps30
        go_wp2_with fail
        refine (HK.out _).mono ?_
        rintro e w1 ⟨rfl, rfl⟩
        go_wp2_with fail
        go_ret
        exact ⟨by rw [HF.out]; rfl, (Gr.refl _).alloc _⟩
      · have t1 := toList_some he
        have HF := Lib.hid (show opB ⟨8, key, elem, n⟩ m = false from decide_eq_false (fun h => by have := h.2.2; simp only [] at this; simp [he] at this))
        clear hn he
        go_enter Try.func30, Try.ntmps30
        go_wp2_with fail
        refine (HK.out _).mono ?_
        rintro e w1 ⟨rfl, rfl⟩
        go_wp2_with fail
        go_ret
        exact ⟨by rw [HF.out]; rfl, (Gr.refl _).alloc _⟩
    · have t0 := int_beq_f hn
      have HF := Lib.hid (show opB ⟨8, key, elem, n⟩ m = false from decide_eq_false (fun h => by have := h.2.2; simp only [] at this; simp [hn] at this))
      clear hn
      go_enter Try.func30, Try.ntmps30
      go_wp2_with fail
      refine (HK.out _).mono ?_
      rintro e w1 ⟨rfl, rfl⟩
      go_wp2_with fail
      go_ret
      exact ⟨by rw [HF.out]; rfl, (Gr.refl _).alloc _⟩
  have k8 := int_beq_f hk8
  have HF := Lib.hid (show opB ⟨kd, key, elem, n⟩ m = false from decide_eq_false (fun h => by have := h.2.2; simp only [] at this; omega))
  clear hk1 hk2 hk3 hk4 hk5 hk6 hk7 hk8
  go_enter Try.func30, Try.ntmps30
  go_wp2_with fail
  refine (HK.out _).mono ?_
  rintro e w1 ⟨rfl, rfl⟩
  go_wp2_with fail
  go_ret
  exact ⟨by rw [HF.out]; rfl, (Gr.refl _).alloc _⟩
set_option maxRecDepth 100000 in
set_option maxHeartbeats 4000000 in
theorem rop8_any (o : TO) (m : Int) (hk : o.key.size ≤ 9223372036854775807) (w : World) :
    Calls Try.prog 28 #[.agg (tovs o), .int .i64 m] w fun e w' => e = .returned (.bool (opB o m)) ∧ Gr w w' := by
  have HK := Lib.hid (fun w => rkey8_any o.key hk w)
  have HM := Lib.hid (fun w => rmember8_any o.elem w)
  obtain ⟨kd, key, elem, n⟩ := o
  unfold tovs
  simp only [] at HK HM ⊢
  clear hk
  rcases hq : keyS key with _ | _
  · rw [hq] at HK
    have HF := Lib.hid (show opB ⟨kd, key, elem, n⟩ m = false from decide_eq_false (fun h => by have := h.1; simp only [] at this; rw [hq] at this; cases this))
    clear hq
    go_enter Try.func28, Try.ntmps28
    go_wp2_with fail
    refine (HK.out _).mono ?_
    rintro e w1 ⟨rfl, rfl⟩
    go_wp2_with fail
    go_ret
    exact ⟨by rw [HF.out]; rfl, (Gr.refl _).alloc _⟩
  rw [hq] at HK
  by_cases hz : 32 < elem.size
  · have HF := Lib.hid (show opB ⟨kd, key, elem, n⟩ m = false from decide_eq_false (fun h => by have := h.2.1; simp only [] at this; omega))
    clear hq
    go_enter Try.func28, Try.ntmps28
    go_wp2_with fail
    refine (HK.out _).mono ?_
    rintro e w1 ⟨rfl, rfl⟩
    go_wp2_with fail
    go_ret
    exact ⟨by rw [HF.out]; rfl, (Gr.refl _).alloc _⟩
  have HQ := Lib.hid hq
  have HZ := Lib.hid hz
  clear hq
  by_cases hk1 : kd = 1
  · subst hk1
    rcases ha : amtB n with _ | _
    · have HF := Lib.hid (show opB ⟨1, key, elem, n⟩ m = false from decide_eq_false (fun h => by have := h.2.2; simp only [] at this; rw [ha] at this; simp at this))
      have hn := amtB_no ha
      clear ha
      go_enter Try.func28, Try.ntmps28
      go_wp2_with fail
      refine (HK.out _).mono ?_
      rintro e w1 ⟨rfl, rfl⟩
      go_wp2_with fail
      all_goals first | (exfalso; omega) | skip
      all_goals go_ret
      all_goals exact ⟨by rw [HF.out]; first | rfl | (simp; omega), (Gr.refl _).alloc _⟩
    · by_cases he : elem.size = 0
      · have t0 := toList_nil he
        have HF := Lib.hid (show opB ⟨1, key, elem, n⟩ m = true from decide_eq_true ⟨HQ.out, Nat.le_of_not_lt HZ.out, .inl ⟨.inl rfl, ha, he⟩⟩)
        obtain ⟨n1, n2⟩ := amtB_yes ha
        have e1 : decide (1 ≤ n) = true := decide_eq_true n1
        have e2 : decide (n ≤ 1099511627776) = true := decide_eq_true n2
        clear ha he
        go_enter Try.func28, Try.ntmps28
        go_wp2_with fail
        refine (HK.out _).mono ?_
        rintro e w1 ⟨rfl, rfl⟩
        go_wp2_with fail
        go_ret
        exact ⟨by rw [HF.out]; rfl, (Gr.refl _).alloc _⟩
      · have t0 := toList_some he
        have HF := Lib.hid (show opB ⟨1, key, elem, n⟩ m = false from decide_eq_false (fun h => by have := h.2.2; simp only [] at this; simp [he] at this))
        obtain ⟨n1, n2⟩ := amtB_yes ha
        have e1 : decide (1 ≤ n) = true := decide_eq_true n1
        have e2 : decide (n ≤ 1099511627776) = true := decide_eq_true n2
        clear ha he
        go_enter Try.func28, Try.ntmps28
        go_wp2_with fail
        refine (HK.out _).mono ?_
        rintro e w1 ⟨rfl, rfl⟩
        go_wp2_with fail
        go_ret
        exact ⟨by rw [HF.out]; rfl, (Gr.refl _).alloc _⟩
  have k1 := int_beq_f hk1
  by_cases hk2 : kd = 2
  · subst hk2
    rcases ha : amtB n with _ | _
    · have HF := Lib.hid (show opB ⟨2, key, elem, n⟩ m = false from decide_eq_false (fun h => by have := h.2.2; simp only [] at this; rw [ha] at this; simp at this))
      have hn := amtB_no ha
      clear ha
      go_enter Try.func28, Try.ntmps28
      go_wp2_with fail
      refine (HK.out _).mono ?_
      rintro e w1 ⟨rfl, rfl⟩
      go_wp2_with fail
      all_goals first | (exfalso; omega) | skip
      all_goals go_ret
      all_goals exact ⟨by rw [HF.out]; first | rfl | (simp; omega), (Gr.refl _).alloc _⟩
    · by_cases he : elem.size = 0
      · have t0 := toList_nil he
        have HF := Lib.hid (show opB ⟨2, key, elem, n⟩ m = true from decide_eq_true ⟨HQ.out, Nat.le_of_not_lt HZ.out, .inl ⟨.inr rfl, ha, he⟩⟩)
        obtain ⟨n1, n2⟩ := amtB_yes ha
        have e1 : decide (1 ≤ n) = true := decide_eq_true n1
        have e2 : decide (n ≤ 1099511627776) = true := decide_eq_true n2
        clear ha he
        go_enter Try.func28, Try.ntmps28
        go_wp2_with fail
        refine (HK.out _).mono ?_
        rintro e w1 ⟨rfl, rfl⟩
        go_wp2_with fail
        go_ret
        exact ⟨by rw [HF.out]; rfl, (Gr.refl _).alloc _⟩
      · have t0 := toList_some he
        have HF := Lib.hid (show opB ⟨2, key, elem, n⟩ m = false from decide_eq_false (fun h => by have := h.2.2; simp only [] at this; simp [he] at this))
        obtain ⟨n1, n2⟩ := amtB_yes ha
        have e1 : decide (1 ≤ n) = true := decide_eq_true n1
        have e2 : decide (n ≤ 1099511627776) = true := decide_eq_true n2
        clear ha he
        go_enter Try.func28, Try.ntmps28
        go_wp2_with fail
        refine (HK.out _).mono ?_
        rintro e w1 ⟨rfl, rfl⟩
        go_wp2_with fail
        go_ret
        exact ⟨by rw [HF.out]; rfl, (Gr.refl _).alloc _⟩
  have k2 := int_beq_f hk2
  by_cases hk3 : kd = 3
  · subst hk3
    rcases ha : amtB n with _ | _
    · have HF := Lib.hid (show opB ⟨3, key, elem, n⟩ m = false from decide_eq_false (fun h => by have := h.2.2; simp only [] at this; rw [ha] at this; simp at this))
      have hn := amtB_no ha
      clear ha
      go_enter Try.func28, Try.ntmps28
      go_wp2_with fail
      refine (HK.out _).mono ?_
      rintro e w1 ⟨rfl, rfl⟩
      go_wp2_with fail
      refine (HM.out _).mono ?_
      rintro e w1 ⟨rfl, rfl⟩
      go_wp2_with fail
      all_goals first | (exfalso; omega) | skip
      all_goals go_ret
      all_goals exact ⟨by rw [HF.out]; first | rfl | (simp; omega), (Gr.refl _).alloc _⟩
    · obtain ⟨z, hz2⟩ : ∃ z, z = memberZ elem := ⟨_, rfl⟩
      have hr := member_range elem
      rw [← hz2] at HM hr
      by_cases hz0 : 0 ≤ z
      · have e3 : decide (0 ≤ z) = true := decide_eq_true hz0
        by_cases hzm : z = m
        · have t4 := int_bne_f hzm
          have HF := Lib.hid (show opB ⟨3, key, elem, n⟩ m = false from decide_eq_false (fun h => by have := h.2.2; simp only [] at this; rw [← hz2] at this; simp [hzm] at this))
          obtain ⟨n1, n2⟩ := amtB_yes ha
          have e1 : decide (1 ≤ n) = true := decide_eq_true n1
          have e2 : decide (n ≤ 1099511627776) = true := decide_eq_true n2
          clear ha hz2 hzm hr
          go_enter Try.func28, Try.ntmps28
          go_wp2_with fail
          refine (HK.out _).mono ?_
          rintro e w1 ⟨rfl, rfl⟩
          go_wp2_with fail
          refine (HM.out _).mono ?_
          rintro e w1 ⟨rfl, rfl⟩
          go_wp2_with fail
          go_ret
          exact ⟨by rw [HF.out]; rfl, (Gr.refl _).alloc _⟩
        · have t4 := int_bne_t hzm
          have HF := Lib.hid (show opB ⟨3, key, elem, n⟩ m = true from decide_eq_true ⟨HQ.out, Nat.le_of_not_lt HZ.out, .inr (.inl ⟨rfl, ha, by simp only []; rw [← hz2]; exact hz0, by simp only []; rw [← hz2]; exact hzm⟩)⟩)
          obtain ⟨n1, n2⟩ := amtB_yes ha
          have e1 : decide (1 ≤ n) = true := decide_eq_true n1
          have e2 : decide (n ≤ 1099511627776) = true := decide_eq_true n2
          clear ha hz2 hzm hr
          go_enter Try.func28, Try.ntmps28
          go_wp2_with fail
          refine (HK.out _).mono ?_
          rintro e w1 ⟨rfl, rfl⟩
          go_wp2_with fail
          refine (HM.out _).mono ?_
          rintro e w1 ⟨rfl, rfl⟩
          go_wp2_with fail
          go_ret
          exact ⟨by rw [HF.out]; rfl, (Gr.refl _).alloc _⟩
      · have e3 : decide (0 ≤ z) = false := decide_eq_false hz0
        have HF := Lib.hid (show opB ⟨3, key, elem, n⟩ m = false from decide_eq_false (fun h => by have := h.2.2; simp only [] at this; rw [← hz2] at this; simp [hz0] at this))
        obtain ⟨n1, n2⟩ := amtB_yes ha
        have e1 : decide (1 ≤ n) = true := decide_eq_true n1
        have e2 : decide (n ≤ 1099511627776) = true := decide_eq_true n2
        clear ha hz2 hz0 hr
        go_enter Try.func28, Try.ntmps28
        go_wp2_with fail
        refine (HK.out _).mono ?_
        rintro e w1 ⟨rfl, rfl⟩
        go_wp2_with fail
        refine (HM.out _).mono ?_
        rintro e w1 ⟨rfl, rfl⟩
        go_wp2_with fail
        go_ret
        exact ⟨by rw [HF.out]; rfl, (Gr.refl _).alloc _⟩
  have k3 := int_beq_f hk3
  by_cases hk4 : kd = 4
  · subst hk4
    by_cases hn : n = 0
    · have t0 := int_beq_t hn
      have HF := Lib.hid (show opB ⟨4, key, elem, n⟩ m = true from decide_eq_true ⟨HQ.out, Nat.le_of_not_lt HZ.out, .inr (.inr (.inl ⟨.inl rfl, hn⟩))⟩)
      clear hn
      go_enter Try.func28, Try.ntmps28
      go_wp2_with fail
      refine (HK.out _).mono ?_
      rintro e w1 ⟨rfl, rfl⟩
      go_wp2_with fail
      go_ret
      exact ⟨by rw [HF.out]; rfl, (Gr.refl _).alloc _⟩
    · have t0 := int_beq_f hn
      have HF := Lib.hid (show opB ⟨4, key, elem, n⟩ m = false from decide_eq_false (fun h => by have := h.2.2; simp only [] at this; simp [hn] at this))
      clear hn
      go_enter Try.func28, Try.ntmps28
      go_wp2_with fail
      refine (HK.out _).mono ?_
      rintro e w1 ⟨rfl, rfl⟩
      go_wp2_with fail
      go_ret
      exact ⟨by rw [HF.out]; rfl, (Gr.refl _).alloc _⟩
  have k4 := int_beq_f hk4
  by_cases hk5 : kd = 5
  · subst hk5
    by_cases hn : n = 0
    · have t0 := int_beq_t hn
      have HF := Lib.hid (show opB ⟨5, key, elem, n⟩ m = true from decide_eq_true ⟨HQ.out, Nat.le_of_not_lt HZ.out, .inr (.inr (.inl ⟨.inr (.inl rfl), hn⟩))⟩)
      clear hn
      go_enter Try.func28, Try.ntmps28
      go_wp2_with fail
      refine (HK.out _).mono ?_
      rintro e w1 ⟨rfl, rfl⟩
      go_wp2_with fail
      go_ret
      exact ⟨by rw [HF.out]; rfl, (Gr.refl _).alloc _⟩
    · have t0 := int_beq_f hn
      have HF := Lib.hid (show opB ⟨5, key, elem, n⟩ m = false from decide_eq_false (fun h => by have := h.2.2; simp only [] at this; simp [hn] at this))
      clear hn
      go_enter Try.func28, Try.ntmps28
      go_wp2_with fail
      refine (HK.out _).mono ?_
      rintro e w1 ⟨rfl, rfl⟩
      go_wp2_with fail
      go_ret
      exact ⟨by rw [HF.out]; rfl, (Gr.refl _).alloc _⟩
  have k5 := int_beq_f hk5
  by_cases hk6 : kd = 6
  · subst hk6
    by_cases hn : n = 0
    · have t0 := int_beq_t hn
      have HF := Lib.hid (show opB ⟨6, key, elem, n⟩ m = true from decide_eq_true ⟨HQ.out, Nat.le_of_not_lt HZ.out, .inr (.inr (.inl ⟨.inr (.inr rfl), hn⟩))⟩)
      clear hn
      go_enter Try.func28, Try.ntmps28
      go_wp2_with fail
      refine (HK.out _).mono ?_
      rintro e w1 ⟨rfl, rfl⟩
      go_wp2_with fail
      go_ret
      exact ⟨by rw [HF.out]; rfl, (Gr.refl _).alloc _⟩
    · have t0 := int_beq_f hn
      have HF := Lib.hid (show opB ⟨6, key, elem, n⟩ m = false from decide_eq_false (fun h => by have := h.2.2; simp only [] at this; simp [hn] at this))
      clear hn
      go_enter Try.func28, Try.ntmps28
      go_wp2_with fail
      refine (HK.out _).mono ?_
      rintro e w1 ⟨rfl, rfl⟩
      go_wp2_with fail
      go_ret
      exact ⟨by rw [HF.out]; rfl, (Gr.refl _).alloc _⟩
  have k6 := int_beq_f hk6
  by_cases hk7 : kd = 7
  · subst hk7
    by_cases hn : n = 0
    · have t0 := int_beq_t hn
      by_cases he : elem.size = 0
      · have t1 := toList_nil he
        have HF := Lib.hid (show opB ⟨7, key, elem, n⟩ m = true from decide_eq_true ⟨HQ.out, Nat.le_of_not_lt HZ.out, .inr (.inr (.inr ⟨.inl rfl, hn, he⟩))⟩)
        clear hn he
        go_enter Try.func28, Try.ntmps28
        go_wp2_with fail
        refine (HK.out _).mono ?_
        rintro e w1 ⟨rfl, rfl⟩
        go_wp2_with fail
        go_ret
        exact ⟨by rw [HF.out]; rfl, (Gr.refl _).alloc _⟩
      · have t1 := toList_some he
        have HF := Lib.hid (show opB ⟨7, key, elem, n⟩ m = false from decide_eq_false (fun h => by have := h.2.2; simp only [] at this; simp [he] at this))
        clear hn he
        go_enter Try.func28, Try.ntmps28
        go_wp2_with fail
        refine (HK.out _).mono ?_
        rintro e w1 ⟨rfl, rfl⟩
        go_wp2_with fail
        go_ret
        exact ⟨by rw [HF.out]; rfl, (Gr.refl _).alloc _⟩
    · have t0 := int_beq_f hn
      have HF := Lib.hid (show opB ⟨7, key, elem, n⟩ m = false from decide_eq_false (fun h => by have := h.2.2; simp only [] at this; simp [hn] at this))
      clear hn
      go_enter Try.func28, Try.ntmps28
      go_wp2_with fail
      refine (HK.out _).mono ?_
      rintro e w1 ⟨rfl, rfl⟩
      go_wp2_with fail
      go_ret
      exact ⟨by rw [HF.out]; rfl, (Gr.refl _).alloc _⟩
  have k7 := int_beq_f hk7
  by_cases hk8 : kd = 8
  · subst hk8
    by_cases hn : n = 0
    · have t0 := int_beq_t hn
      by_cases he : elem.size = 0
      · have t1 := toList_nil he
        have HF := Lib.hid (show opB ⟨8, key, elem, n⟩ m = true from decide_eq_true ⟨HQ.out, Nat.le_of_not_lt HZ.out, .inr (.inr (.inr ⟨.inr rfl, hn, he⟩))⟩)
        clear hn he
        go_enter Try.func28, Try.ntmps28
        go_wp2_with fail
        refine (HK.out _).mono ?_
        rintro e w1 ⟨rfl, rfl⟩
        go_wp2_with fail
        go_ret
        exact ⟨by rw [HF.out]; rfl, (Gr.refl _).alloc _⟩
      · have t1 := toList_some he
        have HF := Lib.hid (show opB ⟨8, key, elem, n⟩ m = false from decide_eq_false (fun h => by have := h.2.2; simp only [] at this; simp [he] at this))
        clear hn he
        go_enter Try.func28, Try.ntmps28
        go_wp2_with fail
        refine (HK.out _).mono ?_
        rintro e w1 ⟨rfl, rfl⟩
        go_wp2_with fail
        go_ret
        exact ⟨by rw [HF.out]; rfl, (Gr.refl _).alloc _⟩
    · have t0 := int_beq_f hn
      have HF := Lib.hid (show opB ⟨8, key, elem, n⟩ m = false from decide_eq_false (fun h => by have := h.2.2; simp only [] at this; simp [hn] at this))
      clear hn
      go_enter Try.func28, Try.ntmps28
      go_wp2_with fail
      refine (HK.out _).mono ?_
      rintro e w1 ⟨rfl, rfl⟩
      go_wp2_with fail
      go_ret
      exact ⟨by rw [HF.out]; rfl, (Gr.refl _).alloc _⟩
  have k8 := int_beq_f hk8
  have HF := Lib.hid (show opB ⟨kd, key, elem, n⟩ m = false from decide_eq_false (fun h => by have := h.2.2; simp only [] at this; omega))
  clear hk1 hk2 hk3 hk4 hk5 hk6 hk7 hk8
  go_enter Try.func28, Try.ntmps28
  go_wp2_with fail
  refine (HK.out _).mono ?_
  rintro e w1 ⟨rfl, rfl⟩
  go_wp2_with fail
  go_ret
  exact ⟨by rw [HF.out]; rfl, (Gr.refl _).alloc _⟩
end Go.Proofs.Ytlihcjlonafohaa
/- Walks: slices.EqualFunc over two lists of transactions, SameList. -/
namespace Go.Proofs.Ytlihcjlonafohaa
open Go.RowKit

end Go.Proofs.Ytlihcjlonafohaa
/- Walks: which transactions may be: head, Check; the laws' waking. -/
namespace Go.Proofs.Ytlihcjlonafohaa
open Go.RowKit

def okHead (t : TX) : Prop := 0 ≤ t.origin ∧ t.origin < 8 ∧ 1 ≤ t.seq ∧ 1 ≤ t.stamp ∧ t.deps t.origin.toNat = t.seq - 1
instance (t : TX) : Decidable (okHead t) := by unfold okHead; infer_instance
def headB (t : TX) : Bool := decide (okHead t)
def okTx (t : TX) : Prop := okHead t ∧ 1 ≤ t.ops.length ∧ t.ops.length ≤ 8 ∧ ∀ o ∈ t.ops, okOp o t.origin
instance (t : TX) : Decidable (okTx t) := by unfold okTx; infer_instance
def checkN (t : TX) : Nat := if okTx t then 0 else 80
theorem check_yes {t : TX} (h : okTx t) : checkN t = 0 := if_pos h
theorem check_no {t : TX} (h : ¬ okTx t) : checkN t = 80 := if_neg h

set_option maxRecDepth 100000 in
set_option maxHeartbeats 4000000 in
theorem head_any (t : TX) (A : Option Addr) (n c : Nat) (hq : t.seq < 18446744073709551616) (w : World) :
    Calls Try.prog 29 #[.agg (tcs t (.slice A n c))] w fun e w' => e = .returned (.bool (headB t)) ∧ Gr w w' := by
  obtain ⟨W, hW, hg, hx⟩ := xbox w t (.slice A n c)
  have HX := Lib.hid hx
  have HG := Lib.hid hg
  by_cases h0 : t.origin < 0
  · have HF := Lib.hid (show headB t = false from decide_eq_false (fun h => by have := h.1; omega))
    clear hx hg hW HX HG
    go_enter Try.func29, Try.ntmps29
    go_wp2_with fail
    go_ret
    exact ⟨by rw [HF.out]; rfl, (Gr.refl _).alloc _⟩
  by_cases h8 : 8 ≤ t.origin
  · have HF := Lib.hid (show headB t = false from decide_eq_false (fun h => by have := h.2.1; omega))
    clear hx hg hW HX HG
    go_enter Try.func29, Try.ntmps29
    go_wp2_with fail
    go_ret
    exact ⟨by rw [HF.out]; rfl, (Gr.refl _).alloc _⟩
  have HS : Hid (XFix W.drew w.heap.size 0 t (.slice A n c) ∧ Gr W W.drew) := Lib.hid ⟨hx.gr (Gr.refl _).drew, (Gr.refl _).drew⟩
  by_cases h1 : 1 ≤ t.seq
  case neg =>
    have e1 : decide ((1 : Int) ≤ (t.seq : Int)) = false := decide_eq_false (by omega)
    have HF := Lib.hid (show headB t = false from decide_eq_false (fun h => by have := h.2.2.1; omega))
    clear hx hg HX h1
    go_enter Try.func29, Try.ntmps29
    go_upto_region 3 with (fail)
    rw [← hW]
    clear hW
    refine qRegion (fun w' => XFix w' w.heap.size 0 t (.slice A n c) ∧ Gr W w') (by kernel_rfl) (by kernel_rfl) HS.out ?_
    iterate 4
      refine qTake (by kernel_rfl) ?_
      apply Exists.intro
      refine ⟨fun wq hq => ?_, ?_⟩
      · go_light
        obtain ⟨⟨q0, q1, q2, q3, q4, q5, q6, q7, q8, q9, q10, q11⟩, -⟩ := hq
        go_simp
        try with_reducible rfl
        done
      try simp only [Act.put, List.setIfInBounds_toArray, List.set_cons_zero, List.set_cons_succ]
    iterate 3
      refine qSkip (by kernel_rfl) ?_
      try simp only [Act.put, List.setIfInBounds_toArray, List.set_cons_zero, List.set_cons_succ]
    iterate 2
      refine qTake (by kernel_rfl) ?_
      apply Exists.intro
      refine ⟨fun wq hq => ?_, ?_⟩
      · go_light
        obtain ⟨⟨q0, q1, q2, q3, q4, q5, q6, q7, q8, q9, q10, q11⟩, -⟩ := hq
        go_simp
        try with_reducible rfl
        done
      try simp only [Act.put, List.setIfInBounds_toArray, List.set_cons_zero, List.set_cons_succ]
    iterate 9
      refine qSkip (by kernel_rfl) ?_
      try simp only [Act.put, List.setIfInBounds_toArray, List.set_cons_zero, List.set_cons_succ]
    iterate 2
      refine qTake (by kernel_rfl) ?_
      apply Exists.intro
      refine ⟨fun wq hq => ?_, ?_⟩
      · go_light
        obtain ⟨⟨q0, q1, q2, q3, q4, q5, q6, q7, q8, q9, q10, q11⟩, -⟩ := hq
        go_simp
        try with_reducible rfl
        done
      try simp only [Act.put, List.setIfInBounds_toArray, List.set_cons_zero, List.set_cons_succ]
    refine qNil ?_
    intro w3 hC
    have HG3 := Lib.hid (HG.out.trans hC.2)
    clear hC HS
    go_wp2_with fail
    go_ret
    exact ⟨by rw [HF.out]; rfl, HG3.out⟩
  have e1 : decide ((1 : Int) ≤ (t.seq : Int)) = true := decide_eq_true (by omega)
  by_cases h2 : 1 ≤ t.stamp
  case neg =>
    have e2 : decide ((1 : Int) ≤ (t.stamp : Int)) = false := decide_eq_false (by omega)
    have HF := Lib.hid (show headB t = false from decide_eq_false (fun h => by have := h.2.2.2.1; omega))
    clear hx hg HX h1 h2
    go_enter Try.func29, Try.ntmps29
    go_upto_region 3 with (fail)
    rw [← hW]
    clear hW
    refine qRegion (fun w' => XFix w' w.heap.size 0 t (.slice A n c) ∧ Gr W w') (by kernel_rfl) (by kernel_rfl) HS.out ?_
    iterate 9
      refine qTake (by kernel_rfl) ?_
      apply Exists.intro
      refine ⟨fun wq hq => ?_, ?_⟩
      · go_light
        obtain ⟨⟨q0, q1, q2, q3, q4, q5, q6, q7, q8, q9, q10, q11⟩, -⟩ := hq
        go_simp
        try with_reducible rfl
        done
      try simp only [Act.put, List.setIfInBounds_toArray, List.set_cons_zero, List.set_cons_succ]
    iterate 9
      refine qSkip (by kernel_rfl) ?_
      try simp only [Act.put, List.setIfInBounds_toArray, List.set_cons_zero, List.set_cons_succ]
    iterate 2
      refine qTake (by kernel_rfl) ?_
      apply Exists.intro
      refine ⟨fun wq hq => ?_, ?_⟩
      · go_light
        obtain ⟨⟨q0, q1, q2, q3, q4, q5, q6, q7, q8, q9, q10, q11⟩, -⟩ := hq
        go_simp
        try with_reducible rfl
        done
      try simp only [Act.put, List.setIfInBounds_toArray, List.set_cons_zero, List.set_cons_succ]
    refine qNil ?_
    intro w3 hC
    have HG3 := Lib.hid (HG.out.trans hC.2)
    clear hC HS
    go_wp2_with fail
    go_ret
    exact ⟨by rw [HF.out]; rfl, HG3.out⟩
  have e2 : decide ((1 : Int) ≤ (t.stamp : Int)) = true := decide_eq_true (by omega)
  clear HS hx hg HX HG hW
  clear W
  obtain ⟨og, sq, st, dp, ops⟩ := t
  simp only [] at h0 h8 h1 h2 e1 e2 hq
  have hsq : IntKind.u64.wrap ((sq : Int) - 1) = (sq : Int) - 1 := by rw [IntKind.wrap_u64]; omega
  have h1' : (1 : Int) ≤ (sq : Int) := by omega
  obtain ⟨k, rfl⟩ : ∃ k : Nat, og = (k : Int) := ⟨og.toNat, by omega⟩
  have hk8 : k < 8 := by omega
  have hH : headB ⟨(k : Int), sq, st, dp, ops⟩ = decide (dp k = sq - 1) :=
    decide_eq_decide.2 ⟨fun h => h.2.2.2.2, fun h => ⟨by simp only []; omega, by simp only []; omega, h1, h2, h⟩⟩
  have hbq : ((dp k : Int) == (sq : Int) - 1) = decide (dp k = sq - 1) := by
    by_cases h : dp k = sq - 1
    · rw [decide_eq_true h]; exact int_beq_t (by omega)
    · rw [decide_eq_false h]; exact int_beq_f (by omega)
  obtain ⟨r, hr⟩ : ∃ r, r = decide (dp k = sq - 1) := ⟨_, rfl⟩
  rw [← hr] at hH hbq
  have hk0 : (0 : Int) ≤ (k : Int) := Int.natCast_nonneg _
  have hk8' : (k : Int) < 8 := by omega
  have hk8n : ¬ (8 : Int) ≤ (k : Int) := by omega
  have hk0n : ¬ (k : Int) < 0 := by omega
  have HF := Lib.hid hH
  obtain ⟨W, hW, hg, hx⟩ := xbox w ⟨(k : Int), sq, st, dp, ops⟩ (.slice A n c)
  have hx2 : W.cell? ⟨w.heap.size, 3 + k, none⟩ = some (.int .u64 (dp k : Int)) := by
    obtain ⟨q0, q1, q2, q3, q4, q5, q6, q7, q8, q9, q10, q11⟩ := hx
    match k, hk8 with
    | 0, _ => exact q3
    | 1, _ => exact q4
    | 2, _ => exact q5
    | 3, _ => exact q6
    | 4, _ => exact q7
    | 5, _ => exact q8
    | 6, _ => exact q9
    | 7, _ => exact q10
  have HG := Lib.hid hg
  have HS := Lib.hid (And.intro (hx.gr (Gr.refl _).drew) (And.intro ((Gr.refl W).drew.cell hx2) (Gr.refl W).drew))
  clear hr h0 h8 h1 h2 hH hx hx2 hg
  go_enter Try.func29, Try.ntmps29
  go_upto_region 3 with (fail)
  rw [← hW]
  clear hW
  refine qRegion (fun w' => XFix w' w.heap.size 0 ⟨(k : Int), sq, st, dp, ops⟩ (.slice A n c) ∧ w'.cell? ⟨w.heap.size, 3 + k, none⟩ = some (.int .u64 (dp k : Int)) ∧ Gr W w') (by kernel_rfl) (by kernel_rfl) HS.out ?_
  iterate 20
    refine qTake (by kernel_rfl) ?_
    apply Exists.intro
    refine ⟨fun wq hq => ?_, ?_⟩
    · go_light
      obtain ⟨⟨q0, q1, q2, q3, q4, q5, q6, q7, q8, q9, q10, q11⟩, q12, -⟩ := hq
      go_simp
      try with_reducible rfl
      done
    try simp only [Act.put, List.setIfInBounds_toArray, List.set_cons_zero, List.set_cons_succ]
  refine qNil ?_
  intro w3 hC
  have HG3 := Lib.hid (HG.out.trans hC.2.2)
  clear hC HS
  go_wp2_with fail
  go_ret
  exact ⟨by rw [HF.out]; rfl, HG3.out⟩
/-- A new box that holds an operation. -/
theorem obox (w : World) (o : TO) : ∃ W, W = w.alloc (.cells (tovs o) 46) ∧ Gr w W ∧ TCell W w.heap.size 0 o := by
  refine ⟨_, rfl, (Gr.refl w).alloc _, ?_⟩
  unfold TCell
  refine ⟨?_, ?_, ?_, ?_⟩ <;> (rw [World.cell?_alloc_at _ _ _ _ rfl]; rfl)
def CheckRel (t : TX) (w : World) (i : Value) (wr : World) : Prop := ∃ k : Nat, k ≤ t.ops.length ∧ i = .int .i64 k ∧ Gr w wr ∧ ∀ j (h1 : j < t.ops.length), j < k → okOp t.ops[j] t.origin
theorem opB_yes {o : TO} {m : Int} (h : opB o m = true) : okOp o m := of_decide_eq_true h
theorem opB_no {o : TO} {m : Int} (h : opB o m = false) : ¬ okOp o m := of_decide_eq_false h
theorem headB_yes {t : TX} (h : headB t = true) : okHead t := of_decide_eq_true h
theorem headB_no {t : TX} (h : headB t = false) : ¬ okHead t := of_decide_eq_false h

set_option maxRecDepth 100000 in
set_option maxHeartbeats 4000000 in
theorem check8_any (t : TX) (v : Value) (hq : t.seq < 18446744073709551616) (hks : ∀ o ∈ t.ops, o.key.size ≤ 9223372036854775807) (w : World) (hv : TOV w v t.ops) :
    Calls Try.prog 19 #[.agg (tcs t v)] w fun e w' => e = .returned (.int .i64 (checkN t : Int)) ∧ Gr w w' := by
  obtain ⟨A, c, rfl, l1, ⟨l2, _⟩, l3⟩ := hv
  have l2' : c ≤ 9223372036854775807 := l2
  have HH := Lib.hid (fun w1 => head_any t A t.ops.length c hq w1)
  have HKS := Lib.hid hks
  have HA := Lib.hid l3
  clear hks l3 hq l2
  obtain ⟨n, hn⟩ : ∃ n, n = t.ops.length := ⟨_, rfl⟩
  rw [← hn] at l1 HH ⊢
  have HN := Lib.hid hn
  clear hn
  obtain ⟨W, hW, hg, hx⟩ := xbox w t (.slice A n c)
  have HG := Lib.hid hg
  have HX := Lib.hid hx
  rcases hb : headB t with _ | _
  · rw [hb] at HH
    have HF := Lib.hid (show checkN t = 80 from check_no (fun h => headB_no hb h.1))
    obtain ⟨q0, q1, q2, q3, q4, q5, q6, q7, q8, q9, q10, q11⟩ := hx
    clear hb hg
    go_enter Try.func19, Try.ntmps19
    go_upto_region 1 with (fail)
    rw [← hW]
    clear hW
    go_wp2_with fail
    refine (HH.out _).mono ?_
    rintro e w1 ⟨rfl, g1⟩
    go_wp2_with fail
    go_ret
    exact ⟨by rw [HF.out]; rfl, HG.out.trans g1⟩
  rw [hb] at HH
  have HB := Lib.hid (headB_yes hb)
  clear hb hg
  by_cases h1 : 1 ≤ n
  case neg =>
    have HF := Lib.hid (show checkN t = 80 from check_no (fun h => h1 (by rw [HN.out]; exact h.2.1)))
    obtain ⟨q0, q1, q2, q3, q4, q5, q6, q7, q8, q9, q10, q11⟩ := hx
    go_enter Try.func19, Try.ntmps19
    go_upto_region 1 with (fail)
    rw [← hW]
    clear hW
    go_wp2_with fail
    refine (HH.out _).mono ?_
    rintro e w1 ⟨rfl, g1⟩
    have q := g1.cell q11
    go_wp2_with fail
    go_ret
    exact ⟨by rw [HF.out]; rfl, HG.out.trans g1⟩
  by_cases h8 : n ≤ 8
  case neg =>
    have HF := Lib.hid (show checkN t = 80 from check_no (fun h => h8 (by rw [HN.out]; exact h.2.2.1)))
    obtain ⟨q0, q1, q2, q3, q4, q5, q6, q7, q8, q9, q10, q11⟩ := hx
    go_enter Try.func19, Try.ntmps19
    go_upto_region 1 with (fail)
    rw [← hW]
    clear hW
    go_wp2_with fail
    refine (HH.out _).mono ?_
    rintro e w1 ⟨rfl, g1⟩
    have q := g1.cell q11
    go_wp2_with fail
    go_ret
    exact ⟨by rw [HF.out]; rfl, HG.out.trans g1⟩
  obtain ⟨q0, q1, q2, q3, q4, q5, q6, q7, q8, q9, q10, q11⟩ := hx
  go_enter Try.func19, Try.ntmps19
  go_upto_region 1 with (fail)
  rw [← hW]
  clear hW
  go_wp2_with fail
  refine (HH.out _).mono ?_
  rintro e w1 ⟨rfl, g1⟩
  have q := g1.cell q11
  have HG1 := Lib.hid g1
  clear q0 q1 q2 q3 q4 q5 q6 q7 q8 q9 q10 q11 g1
  go_wp2_with fail
  go_loopw [23] (fun i wr => CheckRel t w1 i wr) (fun i _ => n - (intOf i).toNat)
  case atStart => exact ⟨0, Nat.zero_le _, rfl, Gr.refl _, fun j _ h => absurd h (Nat.not_lt_zero _)⟩
  case round =>
    obtain ⟨k, hk, rfl, hgr, hkk⟩ := hrel
    rw [← HN.out] at hk
    have HK := Lib.hid hkk
    clear hkk
    by_cases hlt : k < n
    · have hkA : k < t.ops.length := by rw [← HN.out]; exact hlt
      obtain ⟨b, off, rfl, ha⟩ := HA.out k hkA
      obtain ⟨o, ho⟩ : ∃ f, f = t.ops[k] := ⟨_, rfl⟩
      rw [← ho] at ha
      have HC := Lib.hid (fun w2 => op8_any o t.origin (by rw [ho]; exact HKS.out _ (List.getElem_mem hkA)) w2)
      obtain ⟨a0, a1, a2, a3⟩ := ((ha.gr HG.out).gr HG1.out).gr hgr
      have hbx := hgr.cell (HG1.out.cell HX.out.1)
      obtain ⟨W2, hW2, hg2, hx2⟩ := obox wr o
      have hbx2 := hg2.cell hbx
      obtain ⟨c0, c1, c2, c3⟩ := hx2
      have HG2 := Lib.hid (hgr.trans hg2)
      rcases hp : opB o t.origin with _ | _
      · have HF := Lib.hid (show checkN t = 80 from check_no (fun h => opB_no hp (by rw [ho]; exact h.2.2.2 _ (List.getElem_mem hkA))))
        rw [hp] at HC
        clear ha ho hp hkA hgr hbx hg2
        go_upto_region 6 with (fail)
        rw [show (#[Value.int .i64 o.kind, .string o.key, .string o.elem, .int .i64 o.n] : Array Value) = tovs o from rfl, ← hW2]
        clear hW2 a0 a1 a2 a3
        go_wp2_with fail
        refine (HC.out _).mono ?_
        rintro e w3 ⟨rfl, g3⟩
        go_wp2_with fail
        go_ret
        exact ⟨by rw [HF.out]; rfl, (HG.out.trans HG1.out).trans (HG2.out.trans g3)⟩
      · have HS : Hid (∀ j (h1 : j < t.ops.length), j < k + 1 → okOp t.ops[j] t.origin) := Lib.hid (fun j h1 hj => by
          by_cases e : j = k
          · subst e; rw [← ho]; exact opB_yes hp
          · exact HK.out j h1 (by omega))
        rw [hp] at HC
        clear ha ho hp hkA hgr hbx hg2
        go_upto_region 6 with (fail)
        rw [show (#[Value.int .i64 o.kind, .string o.key, .string o.elem, .int .i64 o.n] : Array Value) = tovs o from rfl, ← hW2]
        clear hW2 a0 a1 a2 a3
        go_wp2_with fail
        refine (HC.out _).mono ?_
        rintro e w3 ⟨rfl, g3⟩
        go_wp2_with fail
        go_roundw
        case rel => exact ⟨k + 1, by rw [← HN.out]; omega, by go_num, HG2.out.trans g3, HS.out⟩
        case measure => simp [intOf]; omega
    · have HF := Lib.hid (show checkN t = 0 from check_yes ⟨HB.out, by rw [← HN.out]; omega, by rw [← HN.out]; omega, fun o ho => by
        obtain ⟨j, hj, rfl⟩ := List.mem_iff_getElem.1 ho
        exact HK.out j hj (by rw [← HN.out] at hj; omega)⟩)
      go_wp2_with fail
      go_ret
      exact ⟨by rw [HF.out]; rfl, (HG.out.trans HG1.out).trans hgr⟩
def wakeT : TX := ⟨0, 1, 1, fun _ => 0, [⟨1, ⟨#[97]⟩, ⟨#[]⟩, 5⟩]⟩
theorem wakeT_ok : checkN wakeT = 0 := check_yes (by decide +kernel)
end Go.Proofs.Ytlihcjlonafohaa
