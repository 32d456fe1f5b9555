/- Walks over package vec: Order, Has, Set. -/
import Derived.Test.YtlgljanofppleaaVecB
import Derived.Deep.RegionHeld3
import Derived.Deep.Cut
namespace Go.Proofs.Ytlgljanofppleaa
open Go.RowKit Go.Joins

/-- The eight cells of a vector lie in block B. -/
abbrev Lies (w : World) (B : Nat) (a : Nat → Nat) : Prop :=
  w.cell? ⟨B, 0, none⟩ = some (.int .u64 (a 0 : Int)) ∧ w.cell? ⟨B, 1, none⟩ = some (.int .u64 (a 1 : Int)) ∧ w.cell? ⟨B, 2, none⟩ = some (.int .u64 (a 2 : Int)) ∧ w.cell? ⟨B, 3, none⟩ = some (.int .u64 (a 3 : Int)) ∧
  w.cell? ⟨B, 4, none⟩ = some (.int .u64 (a 4 : Int)) ∧ w.cell? ⟨B, 5, none⟩ = some (.int .u64 (a 5 : Int)) ∧ w.cell? ⟨B, 6, none⟩ = some (.int .u64 (a 6 : Int)) ∧ w.cell? ⟨B, 7, none⟩ = some (.int .u64 (a 7 : Int))
theorem Lies.gr {w w' : World} {B : Nat} {a : Nat → Nat} (h : Lies w B a) (g : Gr w w') : Lies w' B a := by
  obtain ⟨h0, h1, h2, h3, h4, h5, h6, h7⟩ := h
  exact ⟨g.cell h0, g.cell h1, g.cell h2, g.cell h3, g.cell h4, g.cell h5, g.cell h6, g.cell h7⟩
theorem lies_of {w : World} {B : Nat} {a : Nat → Nat} (h : ∀ k, k < 8 → w.cell? ⟨B, k, none⟩ = some (.int .u64 (a k : Int))) : Lies w B a :=
  ⟨h 0 (by decide), h 1 (by decide), h 2 (by decide), h 3 (by decide), h 4 (by decide), h 5 (by decide), h 6 (by decide), h 7 (by decide)⟩

theorem keep2 {w w1 w2 : World} {A B : Nat} {a b : Nat → Nat} (h : Lies w1 A a ∧ Lies w1 B b ∧ Gr w w1) (g : Gr w1 w2) : Lies w2 A a ∧ Lies w2 B b ∧ Gr w w2 := ⟨h.1.gr g, h.2.1.gr g, h.2.2.trans g⟩
/-- -1 below, 0 the same, 1 above, 2 neither. -/
def ordI (a b : Nat → Nat) : Int := if leqB a b = true ∧ leqB b a = true then 0 else if leqB a b = true then -1 else if leqB b a = true then 1 else 2

theorem vmember_yes (o : Int) (h0 : 0 ≤ o) (h8 : o < 8) (w : World) : Calls Try.prog 69 #[.int .i64 o] w fun e w' => e = .returned (.bool true) ∧ w = w' := by
  go_enter Try.func69, Try.ntmps69
  go_wp2_with fail
  go_ret
  exact ⟨rfl, rfl⟩
theorem vmember_no (o : Int) (h : o < 0 ∨ 8 ≤ o) (w : World) : Calls Try.prog 69 #[.int .i64 o] w fun e w' => e = .returned (.bool false) ∧ w = w' := by
  rcases h with h | h
  · have h0 : decide (0 ≤ o) = false := decide_eq_false (by omega)
    go_enter Try.func69, Try.ntmps69
    go_wp2_with fail
    go_ret
    exact ⟨rfl, rfl⟩
  · have h0 : (0 : Int) ≤ o := by omega
    have h8 : decide (o < 8) = false := decide_eq_false (by omega)
    go_enter Try.func69, Try.ntmps69
    go_wp2_with fail
    go_ret
    exact ⟨rfl, rfl⟩
/-- Is that number counted? -/
def hasB (a : Nat → Nat) (o : Int) (n : Nat) : Bool := decide (0 ≤ o) && decide (o < 8) && decide (1 ≤ n) && decide (n ≤ a o.toNat)
theorem box1 (a : Nat → Nat) (w : World) : ∃ W, W = w.alloc (.cells (vcells a) 34) ∧ Gr w W ∧ W.heap[w.heap.size]? = some (.cells (vcells a) 34 (0, 0)) := by
  refine ⟨_, rfl, (Gr.refl w).alloc _, ?_⟩
  simp only [World.alloc, Array.getElem?_push]; simp

set_option maxRecDepth 100000 in
theorem has_no (a : Nat → Nat) (o : Int) (n : Nat) (h : o < 0 ∨ 8 ≤ o) (w : World) :
    Calls Try.prog 51 #[.agg (vcells a), .int .i64 o, .int .u64 (n : Int)] w fun e w' => e = .returned (.bool (hasB a o n)) ∧ Gr w w' := by
  have hh : hasB a o n = false := by
    rcases h with h | h
    · rw [hasB, decide_eq_false (by omega : ¬ 0 ≤ o)]; rfl
    · rw [hasB, decide_eq_false (by omega : ¬ o < 8), Bool.and_false]; rfl
  have HH := Lib.hid hh
  have HM := Lib.hid (fun w => vmember_no o h w)
  obtain ⟨W, hW, hg, hA⟩ := box1 a w
  clear hh h
  go_enter Try.func51, Try.ntmps51
  go_wp2_with fail
  rw [← hW]
  clear hW
  refine (HM.out _).mono ?_
  rintro e w1 ⟨rfl, rfl⟩
  go_wp2_with fail
  go_ret
  exact ⟨by rw [HH.out]; rfl, hg⟩
set_option maxRecDepth 100000 in
theorem has_yes (a : Nat → Nat) (k : Nat) (n : Nat) (hk : k < 8) (w : World) :
    Calls Try.prog 51 #[.agg (vcells a), .int .i64 (k : Int), .int .u64 (n : Int)] w fun e w' => e = .returned (.bool (hasB a k n)) ∧ Gr w w' := by
  have hh : hasB a k n = (decide (1 ≤ n) && decide (n ≤ a k)) := by
    rw [hasB, decide_eq_true (by omega : (0 : Int) ≤ (k : Int)), decide_eq_true (by omega : (k : Int) < 8)]; rfl
  have HH := Lib.hid hh
  have HM := Lib.hid (fun w => vmember_yes (k : Int) (by omega) (by omega) w)
  obtain ⟨W, hW, hg, hA⟩ := box1 a w
  have hca : W.cell? ⟨w.heap.size, k, none⟩ = some (.int .u64 (a k : Int)) := by
    rw [cell_of_block hA, vcells_at _ hk]
  have hk0 : (0 : Int) ≤ (k : Int) := Int.natCast_nonneg _
  have hk8 : (k : Int) < 8 := by omega
  clear hh hA
  by_cases h1 : 1 ≤ n
  · have e1 : (1 : Int) ≤ (n : Int) := by omega
    have HD := Lib.hid (decide_eq_true h1)
    clear h1
    go_enter Try.func51, Try.ntmps51
    go_wp2_with fail
    rw [← hW]
    clear hW
    refine (HM.out _).mono ?_
    rintro e w1 ⟨rfl, rfl⟩
    go_wp2_with fail
    go_ret
    exact ⟨by rw [HH.out, HD.out]; simp, hg⟩
  · have e1 : decide ((1 : Int) ≤ (n : Int)) = false := decide_eq_false (by omega)
    have HD := Lib.hid (decide_eq_false h1)
    clear h1
    go_enter Try.func51, Try.ntmps51
    go_wp2_with fail
    rw [← hW]
    clear hW
    refine (HM.out _).mono ?_
    rintro e w1 ⟨rfl, rfl⟩
    go_wp2_with fail
    go_ret
    exact ⟨by rw [HH.out, HD.out]; rfl, hg⟩
theorem has_any (a : Nat → Nat) (o : Int) (n : Nat) (w : World) :
    Calls Try.prog 51 #[.agg (vcells a), .int .i64 o, .int .u64 (n : Int)] w fun e w' => e = .returned (.bool (hasB a o n)) ∧ Gr w w' := by
  by_cases h : 0 ≤ o ∧ o < 8
  · obtain ⟨k, rfl⟩ := Int.eq_ofNat_of_zero_le h.1
    exact has_yes a k n (by omega) w
  · exact has_no a o n (by omega) w

theorem box1z (a : Nat → Nat) (w : World) : ∃ W, W = (w.alloc (.cells (vcells a) 34)).alloc (.cells #[.int .u64 0, .int .u64 0, .int .u64 0, .int .u64 0, .int .u64 0, .int .u64 0, .int .u64 0, .int .u64 0] 34) ∧ Gr w W ∧
    W.heap[w.heap.size]? = some (.cells (vcells a) 34 (0, 0)) ∧ W.heap[w.heap.size + 1]? = some (.cells (vcells (fun _ => 0)) 34 (0, 0)) := by
  refine ⟨_, rfl, (Gr.refl w |>.alloc _ |>.alloc _), ?_, ?_⟩
  all_goals (simp only [World.alloc, Array.getElem?_push, Array.size_push]; simp)
/-- What the end of a call that hands a vector back out of its memory wants. -/
abbrev ToFill (W : World) (B : Nat) : Prop :=
  (W.cell? ⟨B, 0, none⟩ = some (.int .u64 0) ∧ W.cell? ⟨B, 1, none⟩ = some (.int .u64 0) ∧ W.cell? ⟨B, 2, none⟩ = some (.int .u64 0) ∧ W.cell? ⟨B, 3, none⟩ = some (.int .u64 0) ∧
   W.cell? ⟨B, 4, none⟩ = some (.int .u64 0) ∧ W.cell? ⟨B, 5, none⟩ = some (.int .u64 0) ∧ W.cell? ⟨B, 6, none⟩ = some (.int .u64 0) ∧ W.cell? ⟨B, 7, none⟩ = some (.int .u64 0)) ∧
  B < W.heap.size ∧ ∀ i, W.frozen? ⟨B, i, none⟩ = false
theorem toFill_of {W : World} {B : Nat} (hC : W.heap[B]? = some (.cells (vcells (fun _ => 0)) 34 (0, 0))) : ToFill W B := by
  refine ⟨⟨?_, ?_, ?_, ?_, ?_, ?_, ?_, ?_⟩, (Array.getElem?_eq_some_iff.1 hC).1, fun i => unfrozen_of_block hC i⟩ <;> (rw [cell_of_block hC]; rfl)
theorem lies_block {W : World} {B : Nat} {a : Nat → Nat} (hC : W.heap[B]? = some (.cells (vcells a) 34 (0, 0))) : Lies W B a :=
  lies_of fun _ hk => by rw [cell_of_block hC, vcells_at _ hk]

end Go.Proofs.Ytlgljanofppleaa
