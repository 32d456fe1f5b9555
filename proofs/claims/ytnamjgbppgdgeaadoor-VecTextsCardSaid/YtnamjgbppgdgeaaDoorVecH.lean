/- The fixed fact of the laws of layer 2; the law VecHas. -/
import Derived.Test.YtnamjgbppgdgeaaDoorVecT
namespace Go.Proofs.YtnamjgbppgdgeaaDoor
open Go.RowKit Go.Joins

def zro : Nat → Nat := fun _ => 0
theorem set_no' (a : Nat → Nat) (o : Int) (n : Nat) (h : o < 0 ∨ 8 ≤ o) (w : World) :
    Calls Tryd.prog 19 #[.agg (vcells a), .int .i64 o, .int .u64 (n : Int)] w fun e w' => e = .returned (.tuple #[.agg (vcells zro), .int .i64 1]) ∧ Gr w w' := set_no a o n h w
theorem rset_no' (a : Nat → Nat) (o : Int) (n : Nat) (h : o < 0 ∨ 8 ≤ o) (w : World) :
    Calls Tryd.prog 20 #[.agg (vcells a), .int .i64 o, .int .u64 (n : Int)] w fun e w' => e = .returned (.tuple #[.agg (vcells zro), .int .i64 1]) ∧ Gr w w' := rset_no a o n h w
def one0 : Nat → Nat | 0 => 1 | _ => 0
def one1 : Nat → Nat | 1 => 1 | _ => 0
def three0 : Nat → Nat | 0 => 3 | _ => 0
theorem three_text : (⟨(textTo three0 8).toArray⟩ : ByteArray) = ⟨#[51, 46, 48, 46, 48, 46, 48, 46, 48, 46, 48, 46, 48, 46, 48]⟩ := by
  simp [textTo, three0, Lib.decDigits_one]
set_option maxRecDepth 100000 in
theorem awake02_any (w : World) (hp : Pow w) :
    Calls Tryd.prog 8 #[] w fun e w' => e = .returned (.bool true) ∧ Gr w w' := by
  have h1 : ∀ w : World, Calls Tryd.prog 15 #[.agg #[.int .u64 1, .int .u64 0, .int .u64 0, .int .u64 0, .int .u64 0, .int .u64 0, .int .u64 0, .int .u64 0], .agg #[.int .u64 0, .int .u64 1, .int .u64 0, .int .u64 0, .int .u64 0, .int .u64 0, .int .u64 0, .int .u64 0]] w fun e w' => e = .returned (.int .i64 2) ∧ Gr w w' := fun w => by
    have h := order_any one0 one1 w
    have e : ordI one0 one1 = 2 := by decide
    rw [e] at h
    exact h
  have h2 : ∀ w : World, Pow w → Calls Tryd.prog 21 #[.agg #[.int .u64 3, .int .u64 0, .int .u64 0, .int .u64 0, .int .u64 0, .int .u64 0, .int .u64 0, .int .u64 0]] w fun e w' => e = .returned (.string ⟨#[51, 46, 48, 46, 48, 46, 48, 46, 48, 46, 48, 46, 48, 46, 48]⟩) ∧ Gr w w' := fun w hp => by
    have h := text_any three0 (fun k _ => by unfold three0; split <;> decide) w hp
    rw [three_text] at h
    exact h
  have H1 := Lib.hid h1
  have H2 := Lib.hid h2
  have HP := Lib.hid hp
  clear h1 h2 hp
  go_enter Tryd.func8, Tryd.ntmps8
  go_wp2_with fail
  refine (H1.out _).mono ?_
  rintro e w1 ⟨rfl, hg1⟩
  go_wp2_with fail
  refine (H2.out _ (HP.out.gr hg1)).mono ?_
  rintro e w2 ⟨rfl, hg2⟩
  go_wp2_with fail
  go_ret
  exact ⟨rfl, hg1.trans hg2⟩

theorem box1c (a : Nat → Nat) (w : World) : ∃ W, W = w.alloc (.cells (vcells a) 24) ∧ Gr w W ∧ Lies W w.heap.size a := by
  obtain ⟨W, h1, h2, h3⟩ := box1 a w
  exact ⟨W, h1, h2, lies_block h3⟩
theorem has_is_leq (a : Nat → Nat) (k n : Nat) (hk : k < 8) (hn : 1 ≤ n) : hasB a k n = leqB (upd a k n) a := by
  rw [hasB, decide_eq_true (by omega : (0 : Int) ≤ (k : Int)), decide_eq_true (by omega : (k : Int) < 8), decide_eq_true hn]
  show decide (n ≤ a k) = _
  rw [Bool.eq_iff_iff, leqB_iff]
  constructor
  · intro h i hi
    have h := of_decide_eq_true h
    unfold upd
    split
    · next e => subst e; exact h
    · exact Nat.le_refl _
  · intro h
    have := h k hk
    rw [upd, if_pos rfl] at this
    exact decide_eq_true this

set_option maxRecDepth 100000 in
set_option maxHeartbeats 1000000 in
theorem vecHas_law (a : Nat → Nat) (o : Int) (n : Nat) (w : World) (hp : Pow w) :
    Calls Tryd.prog 6 #[.agg (vcells a), .int .i64 o, .int .u64 (n : Int)] w fun e w' => e = .returned (.bool true) ∧ Gr w w' := by
  obtain ⟨W, hW, hg, hl⟩ := box1c a w
  have HP := Lib.hid (hp.gr hg)
  clear hp
  by_cases hm : 0 ≤ o ∧ o < 8
  · obtain ⟨k, rfl⟩ := Int.eq_ofNat_of_zero_le hm.1
    have hk : k < 8 := by omega
    clear hm
    by_cases h1 : 1 ≤ n
    · have e1 : decide ((n : Int) < 1) = false := decide_eq_false (by omega)
      have HE := Lib.hid (has_is_leq a k n hk h1)
      clear h1
      go_enter Tryd.func6, Tryd.ntmps6
      go_wp2_with fail
      rw [← hW]
      clear hW
      refine (awake02_any _ HP.out).mono ?_
      rintro e w1 ⟨rfl, hg1⟩
      have hl1 := hl.gr hg1
      have HG1 := Lib.hid (hg.trans hg1)
      clear hg hg1 hl
      go_wp2_with fail
      refine (set_yes a k n hk _).mono ?_
      rintro e w2 ⟨rfl, hg2⟩
      have hl2 := hl1.gr hg2
      have HG2 := Lib.hid (HG1.out.trans hg2)
      clear hl1 hg2
      go_wp2_with fail
      obtain ⟨W3, h3, g3, l3⟩ := box1c (upd a k n) w2
      rw [← h3]
      clear h3
      have hl3 := hl2.gr g3
      have HG3 := Lib.hid (HG2.out.trans g3)
      clear hl2 g3
      go_region_held3 (fun w' => Lies w' w.heap.size a ∧ Lies w' w2.heap.size (upd a k n) ∧ Gr w w')
        (first
          | exact ⟨hl3, l3, HG3.out.drew⟩
          | (refine keep2 ?_ hb; assumption))
        (first
          | (go_at_call 17; refine (has_any _ _ _ _).mono ?_; rintro e w4 ⟨rfl, hb⟩)
          | (go_at_call 9; refine (leq_any _ _ _).mono ?_; rintro e w5 ⟨rfl, hb⟩))
      have hG := ‹Lies w5 _ _ ∧ Lies w5 _ _ ∧ Gr w w5›.2.2
      have HG := Lib.hid hG
      clear hG
      go_wp2_with fail
      go_ret
      exact ⟨by rw [HE.out]; simp, HG.out⟩
    · have e1 : decide ((n : Int) < 1) = true := decide_eq_true (by omega)
      have HE := Lib.hid (show hasB a k n = false from by rw [hasB, decide_eq_false h1, Bool.and_false]; rfl)
      clear h1
      go_enter Tryd.func6, Tryd.ntmps6
      go_wp2_with fail
      rw [← hW]
      clear hW
      refine (awake02_any _ HP.out).mono ?_
      rintro e w1 ⟨rfl, hg1⟩
      have hl1 := hl.gr hg1
      have HG1 := Lib.hid (hg.trans hg1)
      clear hg hg1 hl
      go_wp2_with fail
      refine (set_yes a k n hk _).mono ?_
      rintro e w2 ⟨rfl, hg2⟩
      have hl2 := hl1.gr hg2
      have HG2 := Lib.hid (HG1.out.trans hg2)
      clear hl1 hg2
      obtain ⟨W3, rfl, g3, l3⟩ := box1c (upd a k n) w2
      have hl3 := hl2.gr g3
      have HG3 := Lib.hid (HG2.out.trans g3)
      clear g3 l3
      go_wp2_with fail
      refine (has_any _ _ _ _).mono ?_
      rintro e w4 ⟨rfl, hg4⟩
      rw [HE.out]
      have HG4 := Lib.hid (HG3.out.trans hg4)
      clear hg4
      go_wp2_with fail
      go_ret
      exact ⟨rfl, HG4.out⟩
  · have hm2 : o < 0 ∨ 8 ≤ o := by omega
    have HM := Lib.hid hm2
    have HE := Lib.hid (show hasB a o n = false from by
      rcases hm2 with h | h
      · rw [hasB, decide_eq_false (by omega : ¬ 0 ≤ o)]; rfl
      · rw [hasB, decide_eq_false (by omega : ¬ o < 8), Bool.and_false]; rfl)
    clear hm hm2
    go_enter Tryd.func6, Tryd.ntmps6
    go_wp2_with fail
    rw [← hW]
    clear hW
    refine (awake02_any _ HP.out).mono ?_
    rintro e w1 ⟨rfl, hg1⟩
    have hl1 := hl.gr hg1
    have HG1 := Lib.hid (hg.trans hg1)
    clear hg hg1 hl
    go_wp2_with fail
    refine (set_no' a o n HM.out _).mono ?_
    rintro e w2 ⟨rfl, hg2⟩
    have hl2 := hl1.gr hg2
    have HG2 := Lib.hid (HG1.out.trans hg2)
    clear hl1 hg2
    obtain ⟨W3, rfl, g3, l3⟩ := box1c zro w2
    have hl3 := hl2.gr g3
    have HG3 := Lib.hid (HG2.out.trans g3)
    clear g3 l3
    go_wp2_with fail
    refine (has_any _ _ _ _).mono ?_
    rintro e w4 ⟨rfl, hg4⟩
    rw [HE.out]
    have HG4 := Lib.hid (HG3.out.trans hg4)
    clear hg4
    go_wp2_with fail
    go_ret
    exact ⟨rfl, HG4.out⟩
theorem vecHas_law2 (a : Nat → Nat) (_ : VOk a) (o : Int) (_ : -9223372036854775808 ≤ o) (_ : o ≤ 9223372036854775807) (n : Nat) (_ : n < 18446744073709551616) (w : World) (hp : Pow w) :
    Calls Tryd.prog 6 #[.agg (vcells a), .int .i64 o, .int .u64 (n : Int)] w fun e w' => e = .returned (.bool true) ∧ Gr w w' := vecHas_law a o n w hp
end Go.Proofs.YtnamjgbppgdgeaaDoor
