/- Walks: what may come through, the program's and the document's. -/
import Derived.Test.YtfmfeokjnkbpeaaWiA
namespace Go.Proofs.Ytfmfeokjnkbpeaa.Wi
open Go.RowKit

theorem thr_src {s : Nat → Int} {p : P} (h : mem p.src = false) : thr s p = false := by unfold thr; rw [h]; rfl
theorem thr_dst {s : Nat → Int} {p : P} (h : mem p.dst = false) : thr s p = false := by unfold thr; rw [h, Bool.false_and, Bool.and_false]
theorem thr_mem {s : Nat → Int} {p : P} {n m : Nat} (h1 : p.src = n) (h2 : p.dst = m) (hn : n < 8) (hm : m < 8) : thr s p = (s n == s m) := by
  unfold thr
  rw [h1, h2, mem_yes (by omega), mem_yes (by omega), Bool.true_and, Bool.true_and]
  rfl
/-- The two boxes of a net and a packet. -/
theorem boxesNP (v : Value) (nx : Int) (s : Nat → Int) (p : P) (w : World) : ∃ W, W = (w.alloc (.cells (ncells v nx s) 25)).alloc (.cells (pcells p) 31) ∧ Gr w W ∧ W.cell? ⟨w.heap.size + 1, 0, none⟩ = some (.int .i64 p.id) ∧ W.cell? ⟨w.heap.size + 1, 1, none⟩ = some (.int .i64 p.src) ∧ W.cell? ⟨w.heap.size + 1, 2, none⟩ = some (.int .i64 p.dst) ∧ W.cell? ⟨w.heap.size + 1, 3, none⟩ = some (.string p.body) ∧
    (∀ k, k < 8 → W.cell? ⟨w.heap.size, 2 + k, none⟩ = some (.int .i64 (s k))) ∧ w.heap.size + 1 < W.heap.size := by
  refine ⟨_, rfl, (Gr.refl w |>.alloc _ |>.alloc _), by simp, by simp, by simp, by simp, fun k hk => ?_, by simp⟩
  rw [World.cell?_alloc_past _ _ _ (by simp), World.cell?_alloc_at _ _ _ _ rfl]
  exact ncells_side v nx s hk

set_option maxRecDepth 100000 in
set_option maxHeartbeats 2000000 in
theorem through_any (v : Value) (nx : Int) (s : Nat → Int) (p : P) (w : World) :
    Calls Try.prog 18 #[.agg (ncells v nx s), .agg (pcells p)] w fun e w' => e = .returned (.bool (thr s p)) ∧ Gr w w' := by
  obtain ⟨W, hW, hG, -, hp1, hp2, -, hS, -⟩ := boxesNP v nx s p w
  have HS := Lib.hid hS
  have HM := Lib.hid member_any
  clear hS
  rcases h1 : mem p.src with _ | _
  · have HF := Lib.hid (thr_src (s := s) h1)
    have HM1 : Hid (∀ w, Calls Try.prog 25 #[.int .i64 p.src] w fun e w' => e = .returned (.bool false) ∧ w' = w) := Lib.hid (fun w => by rw [← h1]; exact HM.out _ w)
    clear h1
    go_enter Try.func18, Try.ntmps18
    go_upto_region 1 with (fail)
    rw [← hW]
    clear hW
    go_quiet (with_reducible exact Calls.quiet_of_same (HM1.out _))
    go_wp2
    go_ret
    exact ⟨by rw [HF.out]; rfl, hG.drewN _⟩
  rcases h2 : mem p.dst with _ | _
  · have HF := Lib.hid (thr_dst (s := s) h2)
    have HM1 : Hid (∀ w, Calls Try.prog 25 #[.int .i64 p.src] w fun e w' => e = .returned (.bool true) ∧ w' = w) := Lib.hid (fun w => by rw [← h1]; exact HM.out _ w)
    have HM2 : Hid (∀ w, Calls Try.prog 25 #[.int .i64 p.dst] w fun e w' => e = .returned (.bool false) ∧ w' = w) := Lib.hid (fun w => by rw [← h2]; exact HM.out _ w)
    clear h1 h2
    go_enter Try.func18, Try.ntmps18
    go_upto_region 1 with (fail)
    rw [← hW]
    clear hW
    go_quiet ((first | with_reducible exact Calls.quiet_of_same (HM1.out _) | with_reducible exact Calls.quiet_of_same (HM2.out _)))
    go_wp2
    go_ret
    exact ⟨by rw [HF.out]; rfl, hG.drewN _⟩
  · have HM1 : Hid (∀ w, Calls Try.prog 25 #[.int .i64 p.src] w fun e w' => e = .returned (.bool true) ∧ w' = w) := Lib.hid (fun w => by rw [← h1]; exact HM.out _ w)
    have HM2 : Hid (∀ w, Calls Try.prog 25 #[.int .i64 p.dst] w fun e w' => e = .returned (.bool true) ∧ w' = w) := Lib.hid (fun w => by rw [← h2]; exact HM.out _ w)
    obtain ⟨n, hn, hn8⟩ := mem_iff.1 h1
    obtain ⟨m, hm, hm8⟩ := mem_iff.1 h2
    have HF := Lib.hid (thr_mem (s := s) hn hm hn8 hm8)
    rw [hn] at HM1 hp1
    rw [hm] at HM2 hp2
    have hcn := HS.out n hn8
    have hcm := HS.out m hm8
    have hn0 : (0 : Int) ≤ (n : Int) := Int.natCast_nonneg _
    have hn8' : (n : Int) < 8 := by omega
    have hm0 : (0 : Int) ≤ (m : Int) := Int.natCast_nonneg _
    have hm8' : (m : Int) < 8 := by omega
    clear h1 h2 hn hm
    go_enter Try.func18, Try.ntmps18
    go_upto_region 1 with (fail)
    rw [← hW]
    clear hW
    go_quiet ((first | with_reducible exact Calls.quiet_of_same (HM1.out _) | with_reducible exact Calls.quiet_of_same (HM2.out _)))
    go_wp2
    go_ret
    exact ⟨by rw [HF.out]; rfl, hG.drewN _⟩

set_option maxRecDepth 100000 in
set_option maxHeartbeats 2000000 in
theorem passes_any (v : Value) (nx : Int) (s : Nat → Int) (p : P) (w : World) :
    Calls Try.prog 19 #[.agg (ncells v nx s), .agg (pcells p)] w fun e w' => e = .returned (.bool (thr s p)) ∧ Gr w w' := by
  obtain ⟨W, hW, hG, -, hp1, hp2, -, hS, -⟩ := boxesNP v nx s p w
  have HS := Lib.hid hS
  clear hS
  rcases Decidable.em (¬ (0 ≤ p.src)) with h1 | h1
  · have HF := Lib.hid (thr_src (s := s) (mem_no (i := p.src) (by omega)))
    have d1 : decide ((0 : Int) ≤ p.src) = false := decide_eq_false h1
    clear h1
    go_enter Try.func19, Try.ntmps19
    go_upto_region 1 with (fail)
    rw [← hW]
    clear hW
    go_quiet (fail)
    go_wp2
    go_ret
    exact ⟨by rw [HF.out]; rfl, hG.drewN _⟩
  replace h1 := Decidable.not_not.1 h1
  have d1 : decide ((0 : Int) ≤ p.src) = true := decide_eq_true h1
  rcases Decidable.em (¬ (p.src < 8)) with h2 | h2
  · have HF := Lib.hid (thr_src (s := s) (mem_no (i := p.src) (by omega)))
    have d2 : decide (p.src < (8 : Int)) = false := decide_eq_false h2
    clear h1 h2
    go_enter Try.func19, Try.ntmps19
    go_upto_region 1 with (fail)
    rw [← hW]
    clear hW
    go_quiet (fail)
    go_wp2
    go_ret
    exact ⟨by rw [HF.out]; rfl, hG.drewN _⟩
  replace h2 := Decidable.not_not.1 h2
  have d2 : decide (p.src < (8 : Int)) = true := decide_eq_true h2
  rcases Decidable.em (¬ (0 ≤ p.dst)) with h3 | h3
  · have HF := Lib.hid (thr_dst (s := s) (mem_no (i := p.dst) (by omega)))
    have d3 : decide ((0 : Int) ≤ p.dst) = false := decide_eq_false h3
    clear h1 h2 h3
    go_enter Try.func19, Try.ntmps19
    go_upto_region 1 with (fail)
    rw [← hW]
    clear hW
    go_quiet (fail)
    go_wp2
    go_ret
    exact ⟨by rw [HF.out]; rfl, hG.drewN _⟩
  replace h3 := Decidable.not_not.1 h3
  have d3 : decide ((0 : Int) ≤ p.dst) = true := decide_eq_true h3
  rcases Decidable.em (¬ (p.dst < 8)) with h4 | h4
  · have HF := Lib.hid (thr_dst (s := s) (mem_no (i := p.dst) (by omega)))
    have d4 : decide (p.dst < (8 : Int)) = false := decide_eq_false h4
    clear h1 h2 h3 h4
    go_enter Try.func19, Try.ntmps19
    go_upto_region 1 with (fail)
    rw [← hW]
    clear hW
    go_quiet (fail)
    go_wp2
    go_ret
    exact ⟨by rw [HF.out]; rfl, hG.drewN _⟩
  replace h4 := Decidable.not_not.1 h4
  have d4 : decide (p.dst < (8 : Int)) = true := decide_eq_true h4
  · obtain ⟨n, hn⟩ := Int.eq_ofNat_of_zero_le h1
    obtain ⟨m, hm⟩ := Int.eq_ofNat_of_zero_le h3
    have HF := Lib.hid (thr_mem (s := s) hn hm (by omega) (by omega))
    have hcn := HS.out n (by omega)
    have hcm := HS.out m (by omega)
    have hn8' : (n : Int) < 8 := by omega
    have hm8' : (m : Int) < 8 := by omega
    rw [hn] at hp1 d1 d2
    rw [hm] at hp2 d3 d4
    have hn0 : (0 : Int) ≤ (n : Int) := Int.natCast_nonneg _
    have hm0 : (0 : Int) ≤ (m : Int) := Int.natCast_nonneg _
    clear h1 h2 h3 h4 hn hm
    go_enter Try.func19, Try.ntmps19
    go_upto_region 1 with (fail)
    rw [← hW]
    clear hW
    go_quiet (fail)
    go_wp2
    go_ret
    exact ⟨by rw [HF.out]; rfl, hG.drewN _⟩
end Go.Proofs.Ytfmfeokjnkbpeaa.Wi
