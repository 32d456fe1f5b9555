/- Walks over package vec: vectors as functions on the eight members; Leq. -/
import Derived.Test.YtlgljanofppleaaBase
import Derived.BigQuiet
import Derived.Deep.QuietTactic
import Derived.Deep.RegionWith
import Derived.WalkSpells
import Derived.WalkLawsBesides
import Derived.Handy
import Derived.Lib.Hide
namespace Go.Proofs.Ytlgljanofppleaa
open Go.RowKit

/-- The cells of a vector. -/
abbrev vcells (a : Nat → Nat) : Array Value := #[.int .u64 (a 0 : Int), .int .u64 (a 1 : Int), .int .u64 (a 2 : Int), .int .u64 (a 3 : Int), .int .u64 (a 4 : Int), .int .u64 (a 5 : Int), .int .u64 (a 6 : Int), .int .u64 (a 7 : Int)]
theorem vcells_at (a : Nat → Nat) {k : Nat} (hk : k < 8) : (vcells a)[k]? = some (.int .u64 (a k : Int)) := by
  match k, hk with
  | 0, _ => rfl
  | 1, _ => rfl
  | 2, _ => rfl
  | 3, _ => rfl
  | 4, _ => rfl
  | 5, _ => rfl
  | 6, _ => rfl
  | 7, _ => rfl

/-- No number of a up to k is above b's. -/
def leqTo (a b : Nat → Nat) (k : Nat) : Prop := ∀ i, i < k → a i ≤ b i
def leqB (a b : Nat → Nat) : Bool := (List.range 8).all fun i => decide (a i ≤ b i)
theorem leqB_iff {a b : Nat → Nat} : leqB a b = true ↔ leqTo a b 8 := by simp [leqB, leqTo]
theorem leqB_yes {a b : Nat → Nat} (h : leqTo a b 8) : leqB a b = true := leqB_iff.2 h
theorem leqB_no {a b : Nat → Nat} {k : Nat} (hk : k < 8) (h : b k < a k) : leqB a b = false := by
  rw [Bool.eq_false_iff]
  intro q
  have := leqB_iff.1 q k hk
  omega
def LeqRel (a b : Nat → Nat) (w : World) (i : Value) (wr : World) : Prop := ∃ k n : Nat, k ≤ 8 ∧ i = .int .i64 k ∧ leqTo a b k ∧ wr = w.drewN n
/-- The two boxes of a call's two vectors. -/
theorem boxes2 (a b : Nat → Nat) (w : World) : ∃ W, W = (w.alloc (.cells (vcells a) 34)).alloc (.cells (vcells b) 34) ∧ Gr w W ∧
    (∀ k, k < 8 → W.cell? ⟨w.heap.size, k, none⟩ = some (.int .u64 (a k : Int))) ∧ (∀ k, k < 8 → W.cell? ⟨w.heap.size + 1, k, none⟩ = some (.int .u64 (b k : Int))) := by
  refine ⟨_, rfl, (Gr.refl w |>.alloc _ |>.alloc _), fun k hk => ?_, fun k hk => ?_⟩
  · rw [World.cell?_alloc_past _ _ _ (by simp), World.cell?_alloc_at _ _ _ _ rfl]
    exact vcells_at a hk
  · rw [World.cell?_alloc_at _ _ _ _ (by simp)]
    exact vcells_at b hk

set_option maxRecDepth 100000 in
theorem leq_any (a b : Nat → Nat) (w : World) :
    Calls Try.prog 38 #[.agg (vcells a), .agg (vcells b)] w fun e w' => e = .returned (.bool (leqB a b)) ∧ Gr w w' := by
  obtain ⟨W, hW, hg, hA, hB⟩ := boxes2 a b w
  have HA := Lib.hid hA
  have HB := Lib.hid hB
  clear hA hB
  go_enter Try.func38, Try.ntmps38
  go_wp2_with fail
  rw [← hW]
  clear hW
  go_loopw [6] (fun i wr => LeqRel a b W i wr) (fun i _ => 8 - (intOf i).toNat)
  case atStart => exact ⟨0, 0, by decide, rfl, fun i hi => absurd hi (Nat.not_lt_zero i), rfl⟩
  case round =>
    obtain ⟨k, n, hk, rfl, hall, rfl⟩ := hrel
    by_cases hlt : k < 8
    · have hca := HA.out k hlt
      have hcb := HB.out k hlt
      have hk0 : (0 : Int) ≤ (k : Int) := Int.natCast_nonneg _
      have hk8 : (k : Int) < 8 := by omega
      have HALL := Lib.hid hall
      clear hall
      by_cases hab : b k < a k
      · have hd : decide (b k < a k) = true := decide_eq_true hab
        have HR := Lib.hid (leqB_no hlt hab)
        clear hab
        go_wp2_with fail
        go_quiet (fail)
        go_wp2_with fail
        go_ret
        exact ⟨by rw [HR.out]; rfl, (hg.drewN _).drewN _⟩
      · have hd : decide (b k < a k) = false := decide_eq_false hab
        have hall2 : leqTo a b (k + 1) := fun i hi => by
          rcases Nat.lt_or_ge i k with h | h
          · exact HALL.out i h
          · obtain rfl : i = k := by omega
            omega
        have HALL2 := Lib.hid hall2
        clear hab hall2
        go_wp2_with fail
        go_quiet (fail)
        go_wp2_with fail
        go_roundw
        case rel => exact ⟨k + 1, _, by omega, by go_num, HALL2.out, rfl⟩
        case measure => simp [intOf]; omega
    · obtain rfl : k = 8 := by omega
      have HR := Lib.hid (leqB_yes hall)
      clear hall
      go_wp2_with fail
      go_ret
      exact ⟨by rw [HR.out]; rfl, hg.drewN _⟩
set_option maxRecDepth 100000 in
theorem rleq_any (a b : Nat → Nat) (w : World) :
    Calls Try.prog 21 #[.agg (vcells a), .agg (vcells b)] w fun e w' => e = .returned (.bool (leqB a b)) ∧ Gr w w' := by
  obtain ⟨W, hW, hg, hA, hB⟩ := boxes2 a b w
  have HA := Lib.hid hA
  have HB := Lib.hid hB
  clear hA hB
  go_enter Try.func21, Try.ntmps21
  go_wp2_with fail
  rw [← hW]
  clear hW
  go_loopw [5] (fun i wr => LeqRel a b W i wr) (fun i _ => 8 - (intOf i).toNat)
  case atStart => exact ⟨0, 0, by decide, rfl, fun i hi => absurd hi (Nat.not_lt_zero i), rfl⟩
  case round =>
    obtain ⟨k, n, hk, rfl, hall, rfl⟩ := hrel
    by_cases hlt : k < 8
    · have hca := HA.out k hlt
      have hcb := HB.out k hlt
      have hk0 : (0 : Int) ≤ (k : Int) := Int.natCast_nonneg _
      have hk8 : (k : Int) < 8 := by omega
      have HALL := Lib.hid hall
      clear hall
      by_cases hab : b k < a k
      · have hd : decide (b k < a k) = true := decide_eq_true hab
        have HR := Lib.hid (leqB_no hlt hab)
        clear hab
        go_wp2_with fail
        go_quiet (fail)
        go_wp2_with fail
        go_ret
        exact ⟨by rw [HR.out]; rfl, (hg.drewN _).drewN _⟩
      · have hd : decide (b k < a k) = false := decide_eq_false hab
        have hall2 : leqTo a b (k + 1) := fun i hi => by
          rcases Nat.lt_or_ge i k with h | h
          · exact HALL.out i h
          · obtain rfl : i = k := by omega
            omega
        have HALL2 := Lib.hid hall2
        clear hab hall2
        go_wp2_with fail
        go_quiet (fail)
        go_wp2_with fail
        go_roundw
        case rel => exact ⟨k + 1, _, by omega, by go_num, HALL2.out, rfl⟩
        case measure => simp [intOf]; omega
    · obtain rfl : k = 8 := by omega
      have HR := Lib.hid (leqB_yes hall)
      clear hall
      go_wp2_with fail
      go_ret
      exact ⟨by rw [HR.out]; rfl, hg.drewN _⟩
end Go.Proofs.Ytlgljanofppleaa
