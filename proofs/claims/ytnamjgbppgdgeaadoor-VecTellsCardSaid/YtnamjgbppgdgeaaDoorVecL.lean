/- The law VecTells. -/
import Derived.Test.YtnamjgbppgdgeaaDoorVecH
import Derived.Test.YtnamjgbppgdgeaaDoorVecE
namespace Go.Proofs.YtnamjgbppgdgeaaDoor
open Go.RowKit Go.Joins

theorem equal_same (f : Nat → Nat) (w : World) : (Op.equalIn 10000 24 (.agg (vcells f)) (.agg (vcells f))).run Tryd.prog w = .ok true w := by
  rw [equal_v, eqB_self]
theorem awake2 {w w1 : World} {A B : Nat} {a b : Nat → Nat} (h : Lies w1 A a ∧ Lies w1 B b ∧ Gr w w1) (hp : Pow w) :
    Calls Tryd.prog 8 #[] w1 fun e w' => e = .returned (.bool true) ∧ Gr w1 w' := awake02_any w1 (hp.gr h.2.2)

set_option maxRecDepth 100000 in
set_option maxHeartbeats 4000000 in
theorem vecTells_law (a b : Nat → Nat) (o : Int) (n : Nat) (w : World) (hp : Pow w) :
    Calls Tryd.prog 3 #[.agg (vcells a), .agg (vcells b), .int .i64 o, .int .u64 (n : Int)] w fun e w' => e = .returned (.bool true) ∧ Gr w w' := by
  obtain ⟨W, hW, hg, hA, hB⟩ := boxes2 a b w
  have hA := lies_of hA
  have hB := lies_of hB
  have HP := Lib.hid hp
  have hej := fun w => equal_same (jn a b) w
  have hem := fun w => equal_same (mt a b) w
  clear hp
  go_enter Tryd.func3, Tryd.ntmps3
  go_wp2_with fail
  rw [← hW]
  clear hW
  go_region_held3 (fun w' => Lies w' w.heap.size a ∧ Lies w' (w.heap.size + 1) b ∧ Gr w w')
    (first
      | exact ⟨hA, hB, hg.drew⟩
      | (refine keep2 ?_ hb; assumption))
    (first
      | (go_at_call 8; refine (awake2 (by assumption) HP.out).mono ?_; rintro e w2 ⟨rfl, hb⟩)
      | (go_at_call 9; refine (leq_any _ _ _).mono ?_; rintro e w2 ⟨rfl, hb⟩)
      | (go_at_call 10; refine (rleq_any _ _ _).mono ?_; rintro e w2 ⟨rfl, hb⟩)
      | (go_at_call 11; refine (join_any _ _ _).mono ?_; rintro e w2 ⟨rfl, hb⟩)
      | (go_at_call 12; refine (rjoin_any _ _ _).mono ?_; rintro e w2 ⟨rfl, hb⟩)
      | (go_at_call 13; refine (meet_any _ _ _).mono ?_; rintro e w2 ⟨rfl, hb⟩)
      | (go_at_call 14; refine (rmeet_any _ _ _).mono ?_; rintro e w2 ⟨rfl, hb⟩)
      | (go_at_call 15; refine (order_any _ _ _).mono ?_; rintro e w2 ⟨rfl, hb⟩)
      | (go_at_call 16; refine (rorder_any _ _ _).mono ?_; rintro e w2 ⟨rfl, hb⟩)
      | (go_at_call 17; refine (has_any _ _ _ _).mono ?_; rintro e w2 ⟨rfl, hb⟩)
      | (go_at_call 18; refine (rhas_any _ _ _ _).mono ?_; rintro e w2 ⟨rfl, hb⟩))
  have hS := ‹Lies w2 _ _ ∧ Lies w2 _ _ ∧ Gr w w2›
  by_cases hm : 0 ≤ o ∧ o < 8
  · obtain ⟨k, rfl⟩ := Int.eq_ofNat_of_zero_le hm.1
    have hk : k < 8 := by omega
    clear hm
    have heu := fun w => equal_same (upd a k n) w
    clear hej hem hg hA hB
    have hl1 := hS.1
    have HG1 := Lib.hid hS.2.2
    clear hS
    go_wp2_with fail
    refine (set_yes a k n hk _).mono ?_
    rintro e w3 ⟨rfl, hg3⟩
    obtain ⟨W4, rfl, g4, l4⟩ := box1c (upd a k n) w3
    have hl4 := (hl1.gr hg3).gr g4
    have HG4 := Lib.hid ((HG1.out.trans hg3).trans g4)
    have HL4 := Lib.hid l4
    clear hl1 hg3 g4 l4
    go_wp2_with fail
    refine (rset_yes a k n hk _).mono ?_
    rintro e w5 ⟨rfl, hg5⟩
    obtain ⟨W6, rfl, g6, l6⟩ := box1c (upd a k n) w5
    have hl6 := (HL4.out.gr hg5).gr g6
    have HG6 := Lib.hid ((HG4.out.trans hg5).trans g6)
    clear hl4 hg5 g6
    go_wp2_with fail
    go_ret
    exact ⟨rfl, HG6.out⟩
  · have hm2 : o < 0 ∨ 8 ≤ o := by omega
    have HM := Lib.hid hm2
    clear hm hm2
    have heu := fun w => equal_same zro w
    clear hej hem hg hA hB
    have hl1 := hS.1
    have HG1 := Lib.hid hS.2.2
    clear hS
    go_wp2_with fail
    refine (set_no' a o n HM.out _).mono ?_
    rintro e w3 ⟨rfl, hg3⟩
    obtain ⟨W4, rfl, g4, l4⟩ := box1c zro w3
    have hl4 := (hl1.gr hg3).gr g4
    have HG4 := Lib.hid ((HG1.out.trans hg3).trans g4)
    have HL4 := Lib.hid l4
    clear hl1 hg3 g4 l4
    go_wp2_with fail
    refine (rset_no' a o n HM.out _).mono ?_
    rintro e w5 ⟨rfl, hg5⟩
    obtain ⟨W6, rfl, g6, l6⟩ := box1c zro w5
    have hl6 := (HL4.out.gr hg5).gr g6
    have HG6 := Lib.hid ((HG4.out.trans hg5).trans g6)
    clear hl4 hg5 g6
    go_wp2_with fail
    go_ret
    exact ⟨rfl, HG6.out⟩
theorem vecTells_law2 (a : Nat → Nat) (_ : VOk a) (b : Nat → Nat) (_ : VOk b) (o : Int) (_ : -9223372036854775808 ≤ o) (_ : o ≤ 9223372036854775807) (n : Nat) (_ : n < 18446744073709551616) (w : World) (hp : Pow w) :
    Calls Tryd.prog 3 #[.agg (vcells a), .agg (vcells b), .int .i64 o, .int .u64 (n : Int)] w fun e w' => e = .returned (.bool true) ∧ Gr w w' := vecTells_law a b o n w hp
end Go.Proofs.YtnamjgbppgdgeaaDoor
