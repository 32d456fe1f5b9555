/- Walks: a set of members and a crowd of bits: bit, most, Majority. -/
import Derived.Test.YtboonfbbnidmbaaBase
import Derived.Test.YtboonfbbnidmbaaQuiet
import Derived.Test.YtboonfbbnidmbaaVoM
import Derived.Shelf.Small.Bits
import Derived.BigQuiet
import Derived.Deep.QuietTactic
import Derived.WalkSpells
import Derived.WalkLawsBesides
import Derived.Handy
import Derived.Lib.Hide
import Derived.Deep.DeepCutAuto
namespace Go.Proofs.Ytboonfbbnidmbaa
open Go.RowKit Vo
set_option linter.unusedSimpArgs false

def lays135_ren : Go.Shelf.Ren := ⟨fun | 135 => 24 | n => n, fun | 3 => 3 | 5 => 5 | 9 => 9 | n => n, fun n => n⟩
set_option maxRecDepth 100000 in
theorem lays135 : Go.Proofs.Lays.n135 Try.prog lays135_ren := {
  mixed := by kernel_rfl
  f135 := Try.func24.trans (congrArg some (by kernel_rfl))
  t3 := Try.underlying3
  a3 := Try.isAgg3
  z3 := Try.sizeOf3
  v3 := Try.zeroValue3
  t5 := Try.underlying5
  a5 := Try.isAgg5
  z5 := Try.sizeOf5
  v5 := Try.zeroValue5
  t9 := Try.underlying9
  a9 := Try.isAgg9
  z9 := Try.sizeOf9
  v9 := Try.zeroValue9 }
/-- The cells of a set of members. -/
abbrev setc (S : Nat → Bool) : Array Value := #[.bool (S 0), .bool (S 1), .bool (S 2), .bool (S 3), .bool (S 4), .bool (S 5), .bool (S 6), .bool (S 7)]
theorem setc_at (S : Nat → Bool) {k : Nat} (hk : k < 8) : (setc S)[k]? = some (.bool (S k)) := by
  match k, hk with
  | 0, _ => rfl
  | 1, _ => rfl
  | 2, _ => rfl
  | 3, _ => rfl
  | 4, _ => rfl
  | 5, _ => rfl
  | 6, _ => rfl
  | 7, _ => rfl
/-- Is the number a member of the set? -/
def inSet (S : Nat → Bool) (m : Int) : Bool := decide (0 ≤ m) && (decide (m < 8) && S m.toNat)
/-- The member's bit. -/
def bitN (S : Nat → Bool) (m : Int) : Nat := if inSet S m then 2 ^ m.toNat else 0
theorem box_set (S : Nat → Bool) (w : World) : ∃ W, W = w.alloc (.cells (setc S) 35) ∧ Gr w W ∧ W.heap[w.heap.size]? = some (.cells (setc S) 35 (0, 0)) ∧ ∀ k, k < 8 → W.cell? ⟨w.heap.size, k, none⟩ = some (.bool (S k)) := by
  refine ⟨_, rfl, (Gr.refl w).alloc _, (MapKept.heap_alloc w _).1, fun k hk => ?_⟩
  rw [World.cell?_alloc_at _ _ _ _ rfl]
  exact setc_at S hk
set_option maxRecDepth 100000 in
theorem bit_any (S : Nat → Bool) (m : Int) (w : World) :
    Calls Try.prog 21 #[.agg (setc S), .int .i64 m] w fun e w' => e = .returned (.int .u8 (bitN S m : Int)) ∧ Gr w w' := by
  obtain ⟨W, hW, hg, hX, hA⟩ := box_set S w
  have HA := Lib.hid hA
  clear hA hX
  by_cases b1 : m < 0
  · have a1 : decide (m < 0) = true := decide_eq_true b1
    have HR := Lib.hid (show bitN S m = 0 by unfold bitN inSet; rw [decide_eq_false (by omega : ¬ 0 ≤ m)]; rfl)
    clear b1
    go_enter Try.func21, Try.ntmps21
    go_upto_region 1 with (fail)
    rw [← hW]
    clear hW
    go_wp2
    go_ret
    exact ⟨by rw [HR.out]; rfl, hg⟩
  by_cases b2 : 8 ≤ m
  · have a1 : decide (m < 0) = false := decide_eq_false b1
    have a2 : decide ((8 : Int) ≤ m) = true := decide_eq_true b2
    have HR := Lib.hid (show bitN S m = 0 by unfold bitN inSet; rw [decide_eq_false (by omega : ¬ m < 8), Bool.false_and, Bool.and_false]; rfl)
    clear b1 b2
    go_enter Try.func21, Try.ntmps21
    go_upto_region 1 with (fail)
    rw [← hW]
    clear hW
    go_wp2
    go_ret
    exact ⟨by rw [HR.out]; rfl, hg⟩
  obtain ⟨k, rfl⟩ : ∃ k : Nat, m = (k : Int) := ⟨m.toNat, by omega⟩
  have hk : k < 8 := by omega
  have a1 : decide ((k : Int) < 0) = false := decide_eq_false b1
  have a2 : decide ((8 : Int) ≤ (k : Int)) = false := decide_eq_false b2
  have a3 : (0 : Int) ≤ (k : Int) := by omega
  have a4 : (k : Int) < 8 := by omega
  have hc := HA.out k hk
  have hin : inSet S (k : Int) = S k := by unfold inSet; rw [decide_eq_true a3, decide_eq_true a4]; rfl
  clear b1 b2
  rcases hS : S k with _ | _
  · have HR := Lib.hid (show bitN S (k : Int) = 0 by unfold bitN; rw [hin, hS]; rfl)
    rw [hS] at hc
    clear hS hin
    go_enter Try.func21, Try.ntmps21
    go_upto_region 1 with (fail)
    rw [← hW]
    clear hW
    go_wp2
    go_ret
    exact ⟨by rw [HR.out]; rfl, hg⟩
  · have HR := Lib.hid (show bitN S (k : Int) = 2 ^ k by unfold bitN; rw [hin, hS]; rfl)
    rw [hS] at hc
    clear hS hin
    rcases (by omega : k = 0 ∨ k = 1 ∨ k = 2 ∨ k = 3 ∨ k = 4 ∨ k = 5 ∨ k = 6 ∨ k = 7) with rfl | rfl | rfl | rfl | rfl | rfl | rfl | rfl
    all_goals
      clear a1 a2 a3 a4 hk
      go_enter Try.func21, Try.ntmps21
      go_upto_region 1 with (fail)
      rw [← hW]
      clear hW
      go_wp2
      go_ret
      exact ⟨by rw [HR.out]; rfl, hg⟩

/-- Is the crowd of bits more than half of the set? -/
def mostB (S : Nat → Bool) (c : Nat) : Bool := decide (cnt S 8 < 2 * Lib.onesCount c)
theorem index_set (S : Nat → Bool) (k : Nat) (hk : k < 8) (w : World) : (Instr.index 35 (.agg (setc S)) (.int .i64 (k : Int))).run Try.prog w = .ok (.bool (S k)) w := by
  rcases (by omega : k = 0 ∨ k = 1 ∨ k = 2 ∨ k = 3 ∨ k = 4 ∨ k = 5 ∨ k = 6 ∨ k = 7) with rfl | rfl | rfl | rfl | rfl | rfl | rfl | rfl <;> kernel_rfl
theorem ones8 {c : Nat} (hc : c < 256) : Lib.onesCount c ≤ 8 := Lib.onesCount_le8 ⟨c, hc⟩
theorem cnt8 (S : Nat → Bool) (k : Nat) : cnt S (k + 1) = cnt S k + (if S k then 1 else 0) := rfl
set_option maxRecDepth 100000 in
theorem most_any (S : Nat → Bool) (c : Nat) (hc : c < 256) (w : World) :
    Calls Try.prog 22 #[.agg (setc S), .int .u8 (c : Int)] w fun e w' => e = .returned (.bool (mostB S c)) ∧ Gr w w' := by
  obtain ⟨W, hW, hg, hX, hA⟩ := box_set S w
  have c0 := hA 0 (by decide)
  have c1 := hA 1 (by decide)
  have c2 := hA 2 (by decide)
  have c3 := hA 3 (by decide)
  have c4 := hA 4 (by decide)
  have c5 := hA 5 (by decide)
  have c6 := hA 6 (by decide)
  have c7 := hA 7 (by decide)
  have HO := Lib.hid (fun w => Any.bits_OnesCount8 lays135 (c : Int) w (by omega) (by omega))
  have HL : Hid (Lib.onesCount c ≤ 8) := Lib.hid (ones8 hc)
  have HG := Lib.hid hg
  clear hA hX hg hc
  go_enter Try.func22, Try.ntmps22
  go_upto_region 1 with (fail)
  rw [← hW]
  clear hW
  go_wp2_with fail
  go_loop [5, 7, 9] (fun n _ i => ∃ k : Nat, k ≤ 8 ∧ i = .int .i64 (k : Int) ∧ n = .int .i64 ((cnt S k : Nat) : Int)) (fun _ _ i => 8 - (intOf i).toNat)
  case atStart => exact ⟨0, by decide, rfl, rfl⟩
  case round =>
    clear c0 c1 c2 c3 c4 c5 c6 c7
    obtain ⟨k, hk, rfl, rfl⟩ := hrel
    by_cases hlt : k < 8
    · have hk0 : (0 : Int) ≤ (k : Int) := Int.natCast_nonneg _
      have hk8 : (k : Int) < 8 := by omega
      have hix := fun w => index_set S k hlt w
      have hn := cnt8 S k
      have hle := cnt_le S k
      obtain ⟨n, hnn⟩ : ∃ n, n = cnt S k := ⟨_, rfl⟩
      rw [← hnn] at hn hle ⊢
      have HN := Lib.hid hn
      clear hn hnn
      rcases (by cases S k <;> simp : S k = false ∨ S k = true) with hS | hS
      · rw [hS] at HN hix
        clear hS
        go_wp2_with fail
        go_round
        case rel => exact ⟨k + 1, by omega, by go_num, by rw [HN.out]; rfl⟩
        case measure => simp [intOf]; omega
      · rw [hS] at HN hix
        clear hS
        go_wp2_with fail
        go_round
        case rel => exact ⟨k + 1, by omega, by go_num, by rw [HN.out]; go_num⟩
        case measure => simp [intOf]; omega
    · obtain rfl : k = 8 := by omega
      have hle := cnt_le S 8
      obtain ⟨n, hnn⟩ : ∃ n, n = cnt S 8 := ⟨_, rfl⟩
      obtain ⟨o, hoo⟩ : ∃ o, o = Lib.onesCount c := ⟨_, rfl⟩
      have HR := Lib.hid (show mostB S c = decide ((n : Int) < 2 * (o : Int)) by rw [hnn, hoo]; unfold mostB; exact decide_eq_decide.2 (by omega))
      have hol : o ≤ 8 := by rw [hoo]; exact HL.out
      rw [← hnn] at hle ⊢
      have HOO := Lib.hid hoo
      clear hnn hoo
      go_wp2_with fail
      refine (HO.out _).mono ?_
      rintro e w1 ⟨rfl, rfl⟩
      rw [Int.toNat_natCast, ← HOO.out]
      go_wp2
      go_ret
      refine ⟨?_, HG.out⟩
      rw [HR.out]
      rfl

theorem bits_or8 {x y : Nat} (hx : x < 256) (hy : y < 256) : bits BinOp.or IntKind.u8 (x : Int) (y : Int) = ((x ||| y : Nat) : Int) := by
  have h : x ||| y < 256 := Nat.or_lt_two_pow (n := 8) hx hy
  simp only [bits, BitVec.toNat_or, BitVec.toNat_ofInt]
  have e1 : ((x : Int) % ((2 ^ IntKind.u8.bits : Nat) : Int)).toNat = x := by
    show ((x : Int) % 256).toNat = x
    omega
  have e2 : ((y : Int) % ((2 ^ IntKind.u8.bits : Nat) : Int)).toNat = y := by
    show ((y : Int) % 256).toNat = y
    omega
  rw [e1, e2]
  show (((x ||| y : Nat) : Int)) % 256 = _
  omega
/-- The crowd of some numbers: a bit for each member. -/
def crowdN (S : Nat → Bool) : List Int → Nat
  | [] => 0
  | m :: r => bitN S m ||| crowdN S r
theorem bitN_lt (S : Nat → Bool) (m : Int) : bitN S m < 256 := by
  unfold bitN
  split
  · next h =>
    unfold inSet at h
    simp only [Bool.and_eq_true, decide_eq_true_eq] at h
    exact Nat.lt_of_lt_of_le (Nat.pow_lt_pow_right (by decide) (show m.toNat < 8 by omega)) (by decide)
  · decide
theorem bitN_bit (S : Nat → Bool) (m : Int) (k : Nat) : (bitN S m).testBit k = (inSet S m && decide (m = (k : Int))) := by
  unfold bitN
  rcases h : inSet S m with _ | _
  · simp
  · unfold inSet at h
    simp only [Bool.and_eq_true, decide_eq_true_eq] at h
    rw [if_pos rfl, Nat.testBit_two_pow]
    rw [Bool.true_and]
    exact decide_eq_decide.2 (by omega)
/-- The crowd c is, in the set, just those that P tells. -/
structure Crowd (S P : Nat → Bool) (c : Nat) : Prop where
  lt : c < 256
  bits : ∀ k, k < 8 → c.testBit k = (S k && P k)
theorem inSet_nat (S : Nat → Bool) {k : Nat} (hk : k < 8) : inSet S (k : Int) = S k := by
  unfold inSet
  rw [decide_eq_true (by omega : (0 : Int) ≤ (k : Int)), decide_eq_true (by omega : (k : Int) < 8)]
  rfl
theorem Crowd.zero (S : Nat → Bool) : Crowd S (fun _ => false) 0 := ⟨by decide, fun k _ => by rw [Nat.zero_testBit, Bool.and_false]⟩
theorem Crowd.or {S P : Nat → Bool} {c : Nat} (h : Crowd S P c) (m : Int) : Crowd S (fun k => P k || decide (m = (k : Int))) (c ||| bitN S m) := by
  refine ⟨Nat.or_lt_two_pow (n := 8) h.lt (bitN_lt S m), fun k hk => ?_⟩
  rw [Nat.testBit_or, h.bits k hk, bitN_bit]
  by_cases e : m = (k : Int)
  · subst e
    rw [inSet_nat S hk]
    cases S k <;> cases P k <;> simp
  · rw [decide_eq_false e]
    simp
theorem Crowd.congr {S P Q : Nat → Bool} {c : Nat} (h : Crowd S P c) (e : ∀ k, k < 8 → P k = Q k) : Crowd S Q c := ⟨h.lt, fun k hk => by rw [h.bits k hk, e k hk]⟩
theorem ones_cnt : ∀ c : Fin 256, Lib.onesCount c.val = cnt (fun k => c.val.testBit k) 8 := by decide +kernel
theorem Crowd.most {S P : Nat → Bool} {c : Nat} (h : Crowd S P c) : mostB S c = majB S P := by
  have e := ones_cnt ⟨c, h.lt⟩
  simp only at e
  unfold mostB majB
  rw [e, cnt_congr (S := fun k => c.testBit k) (T := fun k => S k && P k) h.bits]
end Go.Proofs.Ytboonfbbnidmbaa
