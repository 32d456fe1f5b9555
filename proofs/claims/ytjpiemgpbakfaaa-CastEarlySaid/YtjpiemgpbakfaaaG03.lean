/- Texts VecA, VecE, TxB, Quiet, joined. -/
import Derived.Test.YtjpiemgpbakfaaaG01
import Derived.BigQuiet
import Derived.Deep.QuietTactic
import Derived.Deep.RegionWith
import Derived.WalkSpells
import Derived.WalkLawsBesides
import Derived.Handy
import Derived.Lib.Hide
import Derived.ChangeKeysEq
import Derived.Laws.StructEq
import Derived.Test.YtjpiemgpbakfaaaG02
import Derived.Deep.Light
import Derived.Deep.RegionHeld3
import Derived.WalkKit
/- Walks over package vec: vectors as functions on the eight members; Leq. -/
namespace Go.Proofs.Ytjpiemgpbakfaaa
open Go.RowKit

/-- The cells of a vector. -/
abbrev vcells (a : Nat → Nat) : Array Value := #[.int .u64 (a 0 : Int), .int .u64 (a 1 : Int), .int .u64 (a 2 : Int), .int .u64 (a 3 : Int), .int .u64 (a 4 : Int), .int .u64 (a 5 : Int), .int .u64 (a 6 : Int), .int .u64 (a 7 : Int)]
theorem vcells_at (a : Nat → Nat) {k : Nat} (hk : k < 8) : (vcells a)[k]? = some (.int .u64 (a k : Int)) := by
  match k, hk with
  | 0, _ => rfl
  | 1, _ => rfl
  | 2, _ => rfl
  | 3, _ => rfl
  | 4, _ => rfl
  | 5, _ => rfl
  | 6, _ => rfl
  | 7, _ => rfl

/-- No number of a up to k is above b's. -/
def leqTo (a b : Nat → Nat) (k : Nat) : Prop := ∀ i, i < k → a i ≤ b i
def leqB (a b : Nat → Nat) : Bool := (List.range 8).all fun i => decide (a i ≤ b i)
theorem leqB_iff {a b : Nat → Nat} : leqB a b = true ↔ leqTo a b 8 := by simp [leqB, leqTo]
theorem leqB_yes {a b : Nat → Nat} (h : leqTo a b 8) : leqB a b = true := leqB_iff.2 h
theorem leqB_no {a b : Nat → Nat} {k : Nat} (hk : k < 8) (h : b k < a k) : leqB a b = false := by
  rw [Bool.eq_false_iff]
  intro q
  have := leqB_iff.1 q k hk
  omega
def LeqRel (a b : Nat → Nat) (w : World) (i : Value) (wr : World) : Prop := ∃ k n : Nat, k ≤ 8 ∧ i = .int .i64 k ∧ leqTo a b k ∧ wr = w.drewN n
/-- The two boxes of a call's two vectors. -/
theorem boxes2 (a b : Nat → Nat) (w : World) : ∃ W, W = (w.alloc (.cells (vcells a) 30)).alloc (.cells (vcells b) 30) ∧ Gr w W ∧
    (∀ k, k < 8 → W.cell? ⟨w.heap.size, k, none⟩ = some (.int .u64 (a k : Int))) ∧ (∀ k, k < 8 → W.cell? ⟨w.heap.size + 1, k, none⟩ = some (.int .u64 (b k : Int))) := by
  refine ⟨_, rfl, (Gr.refl w |>.alloc _ |>.alloc _), fun k hk => ?_, fun k hk => ?_⟩
  · rw [World.cell?_alloc_past _ _ _ (by simp), World.cell?_alloc_at _ _ _ _ rfl]
    exact vcells_at a hk
  · rw [World.cell?_alloc_at _ _ _ _ (by simp)]
    exact vcells_at b hk

set_option maxRecDepth 100000 in
theorem leq_any (a b : Nat → Nat) (w : World) :
    Calls Try.prog 45 #[.agg (vcells a), .agg (vcells b)] w fun e w' => e = .returned (.bool (leqB a b)) ∧ Gr w w' := by
  obtain ⟨W, hW, hg, hA, hB⟩ := boxes2 a b w
  have HA := Lib.hid hA
  have HB := Lib.hid hB
  clear hA hB
  go_enter Try.func45, Try.ntmps45
  go_wp2_with fail
  rw [← hW]
  clear hW
  go_loopw [6] (fun i wr => LeqRel a b W i wr) (fun i _ => 8 - (intOf i).toNat)
  case atStart => exact ⟨0, 0, by decide, rfl, fun i hi => absurd hi (Nat.not_lt_zero i), rfl⟩
  case round =>
    obtain ⟨k, n, hk, rfl, hall, rfl⟩ := hrel
    by_cases hlt : k < 8
    · have hca := HA.out k hlt
      have hcb := HB.out k hlt
      have hk0 : (0 : Int) ≤ (k : Int) := Int.natCast_nonneg _
      have hk8 : (k : Int) < 8 := by omega
      have HALL := Lib.hid hall
      clear hall
      by_cases hab : b k < a k
      · have hd : decide (b k < a k) = true := decide_eq_true hab
        have HR := Lib.hid (leqB_no hlt hab)
        clear hab
        go_wp2_with fail
        go_quiet (fail)
        go_wp2_with fail
        go_ret
        exact ⟨by rw [HR.out]; rfl, (hg.drewN _).drewN _⟩
      · have hd : decide (b k < a k) = false := decide_eq_false hab
        have hall2 : leqTo a b (k + 1) := fun i hi => by
          rcases Nat.lt_or_ge i k with h | h
          · exact HALL.out i h
          · obtain rfl : i = k := by omega
            omega
        have HALL2 := Lib.hid hall2
        clear hab hall2
        go_wp2_with fail
        go_quiet (fail)
        go_wp2_with fail
        go_roundw
        case rel => exact ⟨k + 1, _, by omega, by go_num, HALL2.out, rfl⟩
        case measure => simp [intOf]; omega
    · obtain rfl : k = 8 := by omega
      have HR := Lib.hid (leqB_yes hall)
      clear hall
      go_wp2_with fail
      go_ret
      exact ⟨by rw [HR.out]; rfl, hg.drewN _⟩
set_option maxRecDepth 100000 in
theorem rleq_any (a b : Nat → Nat) (w : World) :
    Calls Try.prog 19 #[.agg (vcells a), .agg (vcells b)] w fun e w' => e = .returned (.bool (leqB a b)) ∧ Gr w w' := by
  obtain ⟨W, hW, hg, hA, hB⟩ := boxes2 a b w
  have HA := Lib.hid hA
  have HB := Lib.hid hB
  clear hA hB
  go_enter Try.func19, Try.ntmps19
  go_wp2_with fail
  rw [← hW]
  clear hW
  go_loopw [5] (fun i wr => LeqRel a b W i wr) (fun i _ => 8 - (intOf i).toNat)
  case atStart => exact ⟨0, 0, by decide, rfl, fun i hi => absurd hi (Nat.not_lt_zero i), rfl⟩
  case round =>
    obtain ⟨k, n, hk, rfl, hall, rfl⟩ := hrel
    by_cases hlt : k < 8
    · have hca := HA.out k hlt
      have hcb := HB.out k hlt
      have hk0 : (0 : Int) ≤ (k : Int) := Int.natCast_nonneg _
      have hk8 : (k : Int) < 8 := by omega
      have HALL := Lib.hid hall
      clear hall
      by_cases hab : b k < a k
      · have hd : decide (b k < a k) = true := decide_eq_true hab
        have HR := Lib.hid (leqB_no hlt hab)
        clear hab
        go_wp2_with fail
        go_quiet (fail)
        go_wp2_with fail
        go_ret
        exact ⟨by rw [HR.out]; rfl, (hg.drewN _).drewN _⟩
      · have hd : decide (b k < a k) = false := decide_eq_false hab
        have hall2 : leqTo a b (k + 1) := fun i hi => by
          rcases Nat.lt_or_ge i k with h | h
          · exact HALL.out i h
          · obtain rfl : i = k := by omega
            omega
        have HALL2 := Lib.hid hall2
        clear hab hall2
        go_wp2_with fail
        go_quiet (fail)
        go_wp2_with fail
        go_roundw
        case rel => exact ⟨k + 1, _, by omega, by go_num, HALL2.out, rfl⟩
        case measure => simp [intOf]; omega
    · obtain rfl : k = 8 := by omega
      have HR := Lib.hid (leqB_yes hall)
      clear hall
      go_wp2_with fail
      go_ret
      exact ⟨by rw [HR.out]; rfl, hg.drewN _⟩
end Go.Proofs.Ytjpiemgpbakfaaa
/- When two vectors are equal, as the model's comparison tells. -/
namespace Go.Proofs.Ytjpiemgpbakfaaa
open Go.RowKit

def eqB (f g : Nat → Nat) : Bool := (List.range 8).all fun i => f i == g i
theorem eqB_iff {f g : Nat → Nat} : eqB f g = true ↔ ∀ k, k < 8 → f k = g k := by simp [eqB]
theorem eqB_self (f : Nat → Nat) : eqB f f = true := eqB_iff.2 fun _ _ => rfl
theorem eqB_of {f g : Nat → Nat} (h : ∀ k, f k = g k) : eqB f g = true := eqB_iff.2 fun k _ => h k
theorem part_v (f : Nat → Nat) {i : Nat} (hi : i < 8) (w : World) : (part 28 (vcells f) (i * 1)).run Try.prog w = .ok (.int .u64 (f i : Int)) w := by
  match i, hi with
  | 0, _ => show _ = _; kernel_rfl
  | 1, _ => show _ = _; kernel_rfl
  | 2, _ => show _ = _; kernel_rfl
  | 3, _ => show _ = _; kernel_rfl
  | 4, _ => show _ = _; kernel_rfl
  | 5, _ => show _ = _; kernel_rfl
  | 6, _ => show _ = _; kernel_rfl
  | 7, _ => show _ = _; kernel_rfl
theorem eqItems_v (f g : Nat → Nat) (w : World) : ∀ (is : List Nat), (∀ i ∈ is, i < 8) → (Op.eqItems 9999 28 1 (vcells f) (vcells g) is).run Try.prog w = .ok (is.all fun i => f i == g i) w
  | [], _ => rfl
  | i :: is, h => by
    have hi := h i (by simp)
    have ih := eqItems_v f g w is (fun j hj => h j (by simp [hj]))
    simp only [Op.eqItems, Sem.run_bind, part_v f hi, part_v g hi, Result.andThen_ok, run_equalIn_int w 9998 28 .u64 .u64 _ _ Try.underlying28]
    by_cases e : f i = g i
    · simp [e, ih]
    · have e' : ¬ ((f i : Int) = (g i : Int)) := by omega
      simp [e, e']
theorem info22 : ∃ i, Try.prog.info? 28 = some i := by
  cases h : Try.prog.info? 28 with
  | some i => exact ⟨i, rfl⟩
  | none => exact absurd h (by have : (Try.prog.info? 28).isSome = true := by kernel_rfl
                               intro e; rw [e] at this; cases this)
theorem cellsU64e : Try.prog.cellsOf 28 = 1 := by kernel_rfl
theorem equal_v (f g : Nat → Nat) (w : World) : (Op.equalIn 10000 30 (.agg (vcells f)) (.agg (vcells g))).run Try.prog w = .ok (eqB f g) w := by
  obtain ⟨i, hi⟩ := info22
  rw [run_equalIn_array w 9999 _ _ Try.underlying30 hi, cellsU64e, eqItems_v f g w _ (fun i hi => by simpa using hi)]
  rfl
end Go.Proofs.Ytjpiemgpbakfaaa
/- Transactions as they are read; walks: when two are the same: the program's and the document's Same. -/
namespace Go.Proofs.Ytjpiemgpbakfaaa
open Go.RowKit

structure TX where
  origin : Int
  seq : Nat
  stamp : Nat
  deps : Nat → Nat
  ops : List TO
/-- The cells of a transaction whose list is the slice v. -/
abbrev tcs (t : TX) (v : Value) : Array Value := #[.int .i64 t.origin, .int .u64 (t.seq : Int), .int .u64 (t.stamp : Int), .int .u64 (t.deps 0 : Int), .int .u64 (t.deps 1 : Int), .int .u64 (t.deps 2 : Int), .int .u64 (t.deps 3 : Int), .int .u64 (t.deps 4 : Int), .int .u64 (t.deps 5 : Int), .int .u64 (t.deps 6 : Int), .int .u64 (t.deps 7 : Int), v]
def sameT (a b : TX) : Bool := (a.origin == b.origin) && (a.seq == b.seq && (a.stamp == b.stamp && (eqB a.deps b.deps && tsameB a.ops b.ops)))
theorem sameT_self (a : TX) : sameT a a = true := by
  unfold sameT
  rw [tsameB_yes rfl, eqB_self]
  simp
theorem int_bne_t {a b : Int} (h : ¬ a = b) : (a != b) = true := bne_iff_ne.2 h
theorem int_bne_f {a b : Int} (h : a = b) : (a != b) = false := by subst h; simp
theorem int_beq_t {a b : Int} (h : a = b) : (a == b) = true := by subst h; simp
theorem int_beq_f {a b : Int} (h : ¬ a = b) : (a == b) = false := by simpa using h
theorem nat_bne_t {a b : Nat} (h : ¬ a = b) : ((a : Int) != (b : Int)) = true := int_bne_t (by omega)
theorem nat_bne_f {a b : Nat} (h : a = b) : ((a : Int) != (b : Int)) = false := int_bne_f (by omega)
theorem nat_beq_t {a b : Nat} (h : a = b) : ((a : Int) == (b : Int)) = true := int_beq_t (by omega)
theorem nat_beq_f {a b : Nat} (h : ¬ a = b) : ((a : Int) == (b : Int)) = false := int_beq_f (by omega)

set_option maxRecDepth 100000 in
set_option maxHeartbeats 2000000 in
theorem same8_any (a b : TX) (va vb : Value) (w : World) (ha : TOV w va a.ops) (hb : TOV w vb b.ops) :
    Calls Try.prog 28 #[.agg (tcs a va), .agg (tcs b vb)] w fun e w' => e = .returned (.bool (sameT a b)) ∧ Gr w w' := by
  have HE := Lib.hid (fun (w1 : World) (g : Gr w w1) => eqOps_any va vb a.ops b.ops w1 (ha.gr g) (hb.gr g))
  have hv := fun w => equal_v a.deps b.deps w
  obtain ⟨r, hr⟩ : ∃ r, r = tsameB a.ops b.ops := ⟨_, rfl⟩
  obtain ⟨d, hd⟩ : ∃ d, d = eqB a.deps b.deps := ⟨_, rfl⟩
  have hF : sameT a b = ((a.origin == b.origin) && (a.seq == b.seq && (a.stamp == b.stamp && (d && r)))) := by unfold sameT; rw [hr, hd]
  rw [← hr] at HE
  rw [← hd] at hv
  have HF := Lib.hid hF
  clear ha hb hr hd hF
  by_cases h1 : a.origin = b.origin
  · have t1 := int_beq_t h1
    by_cases h2 : a.seq = b.seq
    · have t2 := nat_beq_t h2
      by_cases h3 : a.stamp = b.stamp
      · have t3 := nat_beq_t h3
        have hF : sameT a b = (d && r) := by rw [HF.out]; simp [h1, h2, h3]
        have HF := Lib.hid hF
        clear h1 h2 h3 hF
        rcases d with _ | _
        · go_enter Try.func28, Try.ntmps28
          go_wp2_with fail
          go_ret
          exact ⟨by rw [HF.out]; rfl, ((Gr.refl _).alloc _).alloc _⟩
        · go_enter Try.func28, Try.ntmps28
          go_wp2_with fail
          refine (HE.out _ (((Gr.refl _).alloc _).alloc _)).mono ?_
          rintro e w1 ⟨rfl, g1⟩
          go_wp2_with fail
          go_ret
          exact ⟨by rw [HF.out]; rfl, (((Gr.refl _).alloc _).alloc _).trans g1⟩
      · have t3 := nat_beq_f h3
        have hF : sameT a b = false := by rw [HF.out]; simp [h1, h2, h3]
        have HF := Lib.hid hF
        clear h1 h2 h3 hF
        go_enter Try.func28, Try.ntmps28
        go_wp2_with fail
        go_ret
        exact ⟨by rw [HF.out]; rfl, ((Gr.refl _).alloc _).alloc _⟩
    · have t2 := nat_beq_f h2
      have hF : sameT a b = false := by rw [HF.out]; simp [h1, h2]
      have HF := Lib.hid hF
      clear h1 h2 hF
      go_enter Try.func28, Try.ntmps28
      go_wp2_with fail
      go_ret
      exact ⟨by rw [HF.out]; rfl, ((Gr.refl _).alloc _).alloc _⟩
  · have t1 := int_beq_f h1
    have hF : sameT a b = false := by rw [HF.out]; simp [h1]
    have HF := Lib.hid hF
    clear h1 hF
    go_enter Try.func28, Try.ntmps28
    go_wp2_with fail
    go_ret
    exact ⟨by rw [HF.out]; rfl, ((Gr.refl _).alloc _).alloc _⟩
/-- The two boxes of a call's two transactions. -/
theorem boxesT (a b : TX) (va vb : Value) (w : World) : ∃ W, W = (w.alloc (.cells (tcs a va) 38)).alloc (.cells (tcs b vb) 38) ∧ Gr w W ∧
    W.cell? ⟨w.heap.size, 11, none⟩ = some va ∧ W.cell? ⟨w.heap.size + 1, 11, none⟩ = some vb := by
  refine ⟨_, rfl, (Gr.refl w |>.alloc _ |>.alloc _), ?_, ?_⟩
  · rw [World.cell?_alloc_past _ _ _ (by simp), World.cell?_alloc_at _ _ _ _ rfl]
    rfl
  · rw [World.cell?_alloc_at _ _ _ _ (by simp)]
    rfl
set_option maxRecDepth 100000 in
set_option maxHeartbeats 2000000 in
theorem rsame8_any (a b : TX) (va vb : Value) (w : World) (ha : TOV w va a.ops) (hb : TOV w vb b.ops) :
    Calls Try.prog 14 #[.agg (tcs a va), .agg (tcs b vb)] w fun e w' => e = .returned (.bool (sameT a b)) ∧ Gr w w' := by
  obtain ⟨A, ca, rfl, la1, ⟨la2, _⟩, la3⟩ := ha
  obtain ⟨B, cb, rfl, lb1, ⟨lb2, _⟩, lb3⟩ := hb
  unfold maxLen at la2 lb2
  obtain ⟨n, hn⟩ : ∃ n, n = a.ops.length := ⟨_, rfl⟩
  obtain ⟨m, hm⟩ : ∃ n, n = b.ops.length := ⟨_, rfl⟩
  rw [← hn] at la1 ⊢
  rw [← hm] at lb1 ⊢
  have HA := Lib.hid la3
  have HB := Lib.hid lb3
  have hv := fun w => equal_v a.deps b.deps w
  have hF : sameT a b = ((a.origin == b.origin) && (a.seq == b.seq && (a.stamp == b.stamp && (eqB a.deps b.deps && tsameB a.ops b.ops)))) := rfl
  obtain ⟨d, hd⟩ : ∃ d, d = eqB a.deps b.deps := ⟨_, rfl⟩
  rw [← hd] at hv hF
  have HF := Lib.hid hF
  have HN := Lib.hid hn
  have HM := Lib.hid hm
  clear la3 lb3 hn hm hd hF
  by_cases h1 : a.origin = b.origin
  case neg =>
    have t1 := int_bne_t h1
    have hF : sameT a b = false := by rw [HF.out]; simp [h1]
    have HF := Lib.hid hF
    clear h1 hF
    go_enter Try.func14, Try.ntmps14
    go_wp2_with fail
    go_ret
    exact ⟨by rw [HF.out]; rfl, ((Gr.refl _).alloc _).alloc _⟩
  have t1 := int_bne_f h1
  by_cases h2 : a.seq = b.seq
  case neg =>
    have t2 := nat_bne_t h2
    have hF : sameT a b = false := by rw [HF.out]; simp [h2]
    have HF := Lib.hid hF
    clear h1 h2 hF
    go_enter Try.func14, Try.ntmps14
    go_wp2_with fail
    go_ret
    exact ⟨by rw [HF.out]; rfl, ((Gr.refl _).alloc _).alloc _⟩
  have t2 := nat_bne_f h2
  by_cases h3 : a.stamp = b.stamp
  case neg =>
    have t3 := nat_bne_t h3
    have hF : sameT a b = false := by rw [HF.out]; simp [h3]
    have HF := Lib.hid hF
    clear h1 h2 h3 hF
    go_enter Try.func14, Try.ntmps14
    go_wp2_with fail
    go_ret
    exact ⟨by rw [HF.out]; rfl, ((Gr.refl _).alloc _).alloc _⟩
  have t3 := nat_bne_f h3
  rcases d with _ | _
  case false =>
    have hF : sameT a b = false := by rw [HF.out]; simp
    have HF := Lib.hid hF
    clear h1 h2 h3 hF
    go_enter Try.func14, Try.ntmps14
    go_wp2_with fail
    go_ret
    exact ⟨by rw [HF.out]; rfl, ((Gr.refl _).alloc _).alloc _⟩
  have hF : sameT a b = tsameB a.ops b.ops := by rw [HF.out]; simp [h1, h2, h3]
  have HF := Lib.hid hF
  clear h1 h2 h3 hF
  by_cases hl : n = m
  case neg =>
    have t4 := nat_bne_t hl
    have hF : sameT a b = false := by rw [HF.out]; exact tsameB_no (fun h => hl (by rw [HN.out, HM.out, h]))
    have HF := Lib.hid hF
    clear hl hF
    go_enter Try.func14, Try.ntmps14
    go_wp2_with fail
    go_ret
    exact ⟨by rw [HF.out]; rfl, ((Gr.refl _).alloc _).alloc _⟩
  have t4 := nat_bne_f hl
  have HL := Lib.hid hl
  rw [← hl] at lb1 t4 ⊢
  clear hl
  obtain ⟨W, hW, hg, hcA, hcB⟩ := boxesT a b (.slice A n ca) (.slice B n cb) w
  have HG0 := Lib.hid hg
  have HCA := Lib.hid hcA
  have HCB := Lib.hid hcB
  clear hg hcA hcB
  go_enter Try.func14, Try.ntmps14
  go_wp2_with fail
  rw [← hW]
  clear hW
  go_loopw [5] (fun i wr => TSameRel a.ops b.ops W i wr) (fun i _ => n - (intOf i).toNat)
  case atStart => exact ⟨0, Nat.zero_le _, rfl, Gr.refl _, fun j _ _ h => absurd h (Nat.not_lt_zero _)⟩
  case round =>
    obtain ⟨k, hk, rfl, hgr, hkk⟩ := hrel
    rw [← HN.out] at hk
    have HK := Lib.hid hkk
    have hbA := hgr.cell HCA.out
    have hbB := hgr.cell HCB.out
    clear hkk
    by_cases hlt : k < n
    · have hkA : k < a.ops.length := by rw [← HN.out]; exact hlt
      have hkB : k < b.ops.length := by rw [← HM.out, ← HL.out]; exact hlt
      obtain ⟨p, off, rfl, ha⟩ := HA.out k hkA
      obtain ⟨p', off', rfl, hb⟩ := HB.out k hkB
      obtain ⟨f, hf⟩ : ∃ f, f = a.ops[k] := ⟨_, rfl⟩
      obtain ⟨g, hg⟩ : ∃ g, g = b.ops[k] := ⟨_, rfl⟩
      rw [← hf] at ha
      rw [← hg] at hb
      obtain ⟨a0, a1, a2, a3⟩ := (ha.gr HG0.out).gr hgr
      obtain ⟨c0, c1, c2, c3⟩ := (hb.gr HG0.out).gr hgr
      have HG := Lib.hid hgr
      clear ha hb hgr
      have he := fun w => equal_to f g w
      unfold tovs at he
      rcases hq : eqTO f g with _ | _
      · have hne : a.ops ≠ b.ops := fun h => by
          have : f = g := by rw [hf, hg]; simp [h]
          rw [eqTO_iff.2 this] at hq
          cases hq
        have HF := Lib.hid (show sameT a b = false by rw [HF.out]; exact tsameB_no hne)
        rw [hq] at he
        clear hq hf hg hne hkA hkB
        go_wp2_with fail
        go_quiet (fail)
        go_wp2
        go_ret
        exact ⟨by rw [HF.out]; rfl, (HG0.out.trans HG.out).drewN _⟩
      · have hst : ∀ j (h1 : j < a.ops.length) (h2 : j < b.ops.length), j < k + 1 → a.ops[j] = b.ops[j] := by
          intro j h1 h2 hj
          by_cases e : j = k
          · subst e; rw [← hf, ← hg]; exact eqTO_iff.1 hq
          · exact HK.out j h1 h2 (by omega)
        have HS := Lib.hid hst
        rw [hq] at he
        clear hq hf hg hst hkA hkB
        go_wp2_with fail
        go_quiet (fail)
        go_wp2
        go_roundw
        case rel => exact ⟨k + 1, by rw [← HN.out]; omega, by go_num, HG.out.drewN _, HS.out⟩
        case measure => simp [intOf]; omega
    · have hall : a.ops = b.ops := List.ext_getElem (by rw [← HN.out, ← HM.out, HL.out]) fun j h1 h2 => HK.out j h1 h2 (by rw [← HN.out] at h1; omega)
      have HF := Lib.hid (show sameT a b = true by rw [HF.out]; exact tsameB_yes hall)
      clear hall
      go_wp2_with fail
      go_ret
      exact ⟨by rw [HF.out]; rfl, HG0.out.trans hgr⟩
end Go.Proofs.Ytjpiemgpbakfaaa
/- A region that draws its order, whose operations read cells of a class of worlds and whose calls leave the class: one walk of the text's order. -/
namespace Go.Proofs.Ytjpiemgpbakfaaa

/-- The walk of the text's order, shut: else each step looks through all that follow. -/
structure QW (P : Program) (ops : Array Oper) (C : World → Prop) (Q : Act → Prop) (l : List Oper) (a : Act) : Prop where
  out : wpQuiet P ops C Q l a

section
variable {P : Program} {ops : Array Oper} {C : World → Prop} {Q : Act → Prop} {o : Oper} {rest : List Oper} {a : Act}
theorem qTake (hw : Region.wanted o (yielded ops a.tmps) = true) (h : ∃ v, (∀ w, C w → (execOp a.eval o).run P w = .ok (.value v) w) ∧ QW P ops C Q rest (a.put o.dst v)) : QW P ops C Q (o :: rest) a := by
  obtain ⟨v, h1, h2⟩ := h
  refine ⟨wpQuiet_step fun K hK => ?_⟩
  rw [if_pos hw]
  refine ⟨v, fun w hC => ?_, hK _ h2.out⟩
  unfold Oper.quietAt
  rw [h1 w hC]
  exact ⟨rfl, rfl⟩
theorem qSkip (hw : Region.wanted o (yielded ops a.tmps) = false) (h : QW P ops C Q rest (a.put o.dst undef)) : QW P ops C Q (o :: rest) a := by
  refine ⟨wpQuiet_step fun K hK => ?_⟩
  rw [if_neg (by rw [hw]; exact Bool.false_ne_true)]
  exact hK _ h.out
theorem qCall (hw : Region.wanted o (yielded ops a.tmps) = true) (h : ∃ v, (∃ f args, (∀ w, (execOp a.eval o).run P w = .ok (.enter f args) w) ∧ ∀ w, C w → Calls P f args w fun e w'' => e = .returned v ∧ C w'') ∧ QW P ops C Q rest (a.put o.dst v)) : QW P ops C Q (o :: rest) a := by
  obtain ⟨v, ⟨f, args, h1, h3⟩, h2⟩ := h
  refine ⟨wpQuiet_step fun K hK => ?_⟩
  rw [if_pos hw]
  refine ⟨v, fun w hC => ?_, hK _ h2.out⟩
  unfold Oper.quietAt
  rw [h1 w]
  exact ⟨rfl, h3 w hC⟩
theorem qNil (h : Q a) : QW P ops C Q [] a := ⟨wpQuiet_nil h⟩
/-- The region, its operations written out. -/
theorem qRegion {id : Nat} {Q : Exit → Act → World → Prop} {a : Act} {w : World} {l : List Oper} (C : World → Prop) (hm : P.follows .mixedOrders = true) (hB : Region.lexB .any l.toArray = true) (hC : C w.drew)
    (h : QW P l.toArray C (fun a' => ∀ w', C w' → Q .normal a' w') l a) : (Code.region id l.toArray true).wp P Q a w :=
  wp_region_quiet (C := C) hm hB hC (by simpa using h.out)
end

section
variable {P : Program} {md : Region.Mode} {ops : Array Oper} {Q : Exit → Act → World → Prop} {S : World → Prop}
/-- A region by hand: an operation that yields its value is taken first. -/
theorem hTake {i : Nat} {oi : Oper} {fuel : Nat} {listed : Array Bool} {a : Act} {w : World} (hi : ops[i]? = some oi)
    (hs : Region.noSelect ops = true) (hf : Region.free md ops listed i = true) (hr : (Region.ready md ops listed).contains i = true)
    (hw : Region.wanted oi (yielded ops a.tmps) = true) (hS : S w)
    (h : ∃ v, (∀ c a w, Q (.panic c) (a.put oi.dst v) w → Q (.panic c) a w) ∧ (∀ w, S w → (execOp a.eval oi).run P w = .ok (.value v) w) ∧ wpAnyH P md ops Q S fuel (listed.setIfInBounds i true) (a.put oi.dst v) w) : wpAnyH P md ops Q S (fuel + 1) listed a w := by
  obtain ⟨v, hQ, hv, h⟩ := h
  exact wpAnyH_take hi hs hf hr hQ (Or.inl ⟨hw, hv⟩) hS h
end
end Go.Proofs.Ytjpiemgpbakfaaa
