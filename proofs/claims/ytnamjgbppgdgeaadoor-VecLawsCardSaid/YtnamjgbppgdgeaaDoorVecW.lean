/- The law VecLaws. -/
import Derived.Test.YtnamjgbppgdgeaaDoorVecL
import Derived.Deep.Cut
namespace Go.Proofs.YtnamjgbppgdgeaaDoor
open Go.RowKit Go.Joins

theorem equal_of {f g : Nat → Nat} (h : ∀ k, f k = g k) (w : World) : (Op.equalIn 10000 24 (.agg (vcells f)) (.agg (vcells g))).run Tryd.prog w = .ok true w := by
  rw [equal_v, eqB_of h]
def ordV : Bool → Bool → Int | true, true => 0 | true, false => -1 | false, true => 1 | false, false => 2
theorem ordI_val {a b : Nat → Nat} {x y : Bool} (hx : leqB a b = x) (hy : leqB b a = y) : ordI a b = ordV x y := by
  rw [ordI, hx, hy]
  cases x <;> cases y <;> rfl
theorem boxes3w (a b c : Nat → Nat) (w : World) : ∃ W, W = ((w.alloc (.cells (vcells a) 24)).alloc (.cells (vcells b) 24)).alloc (.cells (vcells c) 24) ∧ Gr w W ∧
    Lies W w.heap.size a ∧ Lies W (w.heap.size + 1) b ∧ Lies W (w.heap.size + 1 + 1) c := by
  obtain ⟨W2, rfl, g2, l2⟩ := boxes2 a b w
  obtain ⟨W3, h3, g3, l3⟩ := box1c c ((w.alloc (.cells (vcells a) 24)).alloc (.cells (vcells b) 24))
  refine ⟨W3, h3, g2.trans g3, (lies_of l2.1).gr g3, (lies_of l2.2).gr g3, ?_⟩
  have : ((w.alloc (.cells (vcells a) 24)).alloc (.cells (vcells b) 24)).heap.size = w.heap.size + 1 + 1 := by simp
  rw [this] at l3
  exact l3
theorem keep3w {w w1 w2 : World} {A B C : Nat} {a b c : Nat → Nat} (h : Lies w1 A a ∧ Lies w1 B b ∧ Lies w1 C c ∧ Gr w w1) (g : Gr w1 w2) : Lies w2 A a ∧ Lies w2 B b ∧ Lies w2 C c ∧ Gr w w2 := ⟨h.1.gr g, h.2.1.gr g, h.2.2.1.gr g, h.2.2.2.trans g⟩
theorem awake3w {w w1 : World} {A B C : Nat} {a b c : Nat → Nat} (h : Lies w1 A a ∧ Lies w1 B b ∧ Lies w1 C c ∧ Gr w w1) (hp : Pow w) :
    Calls Tryd.prog 8 #[] w1 fun e w' => e = .returned (.bool true) ∧ Gr w1 w' := awake02_any w1 (hp.gr h.2.2.2)

set_option maxRecDepth 100000 in
set_option maxHeartbeats 40000000 in
theorem vecLaws_law (a b c : Nat → Nat) (w : World) (hp : Pow w) :
    Calls Tryd.prog 7 #[.agg (vcells a), .agg (vcells b), .agg (vcells c)] w fun e w' => e = .returned (.bool true) ∧ Gr w w' := by
  obtain ⟨W, hW, hg, hA, hB, hC⟩ := boxes3w a b c w
  have HP := Lib.hid hp
  clear hp
  have q1 := fun w => equal_of (f := jn a b) (g := jn b a) (fun k => Nat.max_comm _ _) w
  have q2 := fun w => equal_of (f := mt a b) (g := mt b a) (fun k => Nat.min_comm _ _) w
  have q3 := fun w => equal_of (f := jn a (jn b c)) (g := jn (jn a b) c) (fun k => (Nat.max_assoc _ _ _).symm) w
  have q4 := fun w => equal_of (f := mt a (mt b c)) (g := mt (mt a b) c) (fun k => (Nat.min_assoc _ _ _).symm) w
  have q5 := fun w => equal_of (f := jn a (mt a b)) (g := a) (fun k => Nat.max_eq_left (Nat.min_le_left _ _)) w
  have q6 := fun w => equal_of (f := mt a (jn a b)) (g := a) (fun k => Nat.min_eq_left (Nat.le_max_left _ _)) w
  have q7 := fun w => equal_of (f := mt a (jn b c)) (g := jn (mt a b) (mt a c)) (fun k => by simp only [mt, jn]; omega) w
  go_enter Tryd.func7, Tryd.ntmps7
  go_wp2_with fail
  rw [← hW]
  clear hW
  go_region_held3 (fun w' => Lies w' w.heap.size a ∧ Lies w' (w.heap.size + 1) b ∧ Lies w' (w.heap.size + 1 + 1) c ∧ Gr w w')
    (first
      | exact ⟨hA, hB, hC, hg.drew⟩
      | (refine keep3w ?_ hb; assumption))
    (first
      | (go_at_call 8; refine (awake3w (by assumption) HP.out).mono ?_; rintro e w2 ⟨rfl, hb⟩)
      | (go_at_call 11; refine (join_any _ _ _).mono ?_; rintro e w2 ⟨rfl, hb⟩)
      | (go_at_call 13; refine (meet_any _ _ _).mono ?_; rintro e w2 ⟨rfl, hb⟩))
  have hS := ‹Lies w2 _ _ ∧ Lies w2 _ _ ∧ Lies w2 _ _ ∧ Gr w w2›
  clear hA hB hC hg
  obtain ⟨hA, hB, hC, hg⟩ := hS
  go_upto_region 3 with (fail)
  go_region_held3 (fun w' => Lies w' w.heap.size a ∧ Lies w' (w.heap.size + 1) b ∧ Lies w' (w.heap.size + 1 + 1) c ∧ Gr w w')
    (first
      | exact keep3w ⟨hA, hB, hC, hg⟩ ((Gr.refl _).drew)
      | (refine keep3w ?_ hb; assumption))
    (first
      | (go_at_call 11; refine (join_any _ _ _).mono ?_; rintro e w3 ⟨rfl, hb⟩)
      | (go_at_call 13; refine (meet_any _ _ _).mono ?_; rintro e w3 ⟨rfl, hb⟩))
  have hS := ‹Lies w3 _ _ ∧ Lies w3 _ _ ∧ Lies w3 _ _ ∧ Gr w w3›
  clear hA hB hC hg q1 q2 q3 q4 q5 q6 q7
  obtain ⟨hA, hB, hC, hg⟩ := hS
  go_upto_region 5 with (fail)
  go_region_held3 (fun w' => Lies w' w.heap.size a ∧ Lies w' (w.heap.size + 1) b ∧ Lies w' (w.heap.size + 1 + 1) c ∧ Gr w w')
    (first
      | exact keep3w ⟨hA, hB, hC, hg⟩ ((Gr.refl _).drew)
      | (refine keep3w ?_ hb; assumption))
    (first
      | (go_at_call 15; refine (order_any _ _ _).mono ?_; rintro e w4 ⟨rfl, hb⟩))
  have hG := ‹Lies w4 _ _ ∧ Lies w4 _ _ ∧ Lies w4 _ _ ∧ Gr w w4›.2.2.2
  have HG := Lib.hid hG
  clear hA hB hC hg hG
  cases hx : leqB a b <;> cases hy : leqB b a
  all_goals
    have e1 := ordI_val hx hy
    have e2 := ordI_val hy hx
    simp only [ordV] at e1 e2
    clear hx hy
    go_wp2_with fail
    go_ret
    exact ⟨rfl, HG.out⟩
theorem vecLaws_law2 (a : Nat → Nat) (_ : VOk a) (b : Nat → Nat) (_ : VOk b) (c : Nat → Nat) (_ : VOk c) (w : World) (hp : Pow w) :
    Calls Tryd.prog 7 #[.agg (vcells a), .agg (vcells b), .agg (vcells c)] w fun e w' => e = .returned (.bool true) ∧ Gr w w' := vecLaws_law a b c w hp
end Go.Proofs.YtnamjgbppgdgeaaDoor
