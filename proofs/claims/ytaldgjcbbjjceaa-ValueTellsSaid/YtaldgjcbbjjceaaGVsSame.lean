/- Walks: the document's Same of values, of equal ones. -/
import Derived.Test.YtaldgjcbbjjceaaG28
namespace Go.Proofs.Ytaldgjcbbjjceaa
open Go.RowKit Go.Joins
set_option linter.unusedSimpArgs false
set_option linter.unusedVariables false

set_option maxRecDepth 100000 in
set_option maxHeartbeats 4000000 in
theorem same10_any (n : Int) (on : Bool) (A1 A2 : Option Addr) (m c1 c2 : Nat) (E : List ByteArray) (w : World) (hm : m = E.length) (h1 : SV w (.slice A1 m c1) E) (h2 : SV w (.slice A2 m c2) E) :
    Calls Try.prog 14 #[.agg #[.int .i64 n, .slice A1 m c1, .bool on], .agg #[.int .i64 n, .slice A2 m c2, .bool on]] w fun e w' => e = .returned (.bool true) ∧ Gr w w' := by
  obtain ⟨W, hW, hg, hb1, hb2⟩ : ∃ W, W = (w.alloc (.cells #[.int .i64 n, .slice A1 m c1, .bool on] 32)).alloc (.cells #[.int .i64 n, .slice A2 m c2, .bool on] 32) ∧ Gr w W ∧
      W.heap[w.heap.size]? = some (.cells #[.int .i64 n, .slice A1 m c1, .bool on] 32 (0, 0)) ∧ W.heap[w.heap.size + 1]? = some (.cells #[.int .i64 n, .slice A2 m c2, .bool on] 32 (0, 0)) := by
    refine ⟨_, rfl, ((Gr.refl w).alloc _).alloc _, ?_, ?_⟩ <;> (simp only [World.alloc, Array.getElem?_push, Array.size_push]; simp)
  have HB1 := Lib.hid hb1
  have HB2 := Lib.hid hb2
  have HG := Lib.hid hg
  have HM := Lib.hid hm
  obtain ⟨Ax, cx, e1, -, ⟨hm1, -⟩, hat1⟩ := h1.gr hg
  obtain ⟨Ay, cy, e2, -, -, hat2⟩ := h2.gr hg
  injection e1 with a1 a2 a3
  injection e2 with b1 b2 b3
  subst a1 a3 b1 b3
  have HA1 : Hid (∀ j (hj : j < E.length), ∃ b off, A1 = some ⟨b, off, none⟩ ∧ W.cell? ⟨b, off + j, none⟩ = some (.string E[j])) := Lib.hid hat1
  have HA2 : Hid (∀ j (hj : j < E.length), ∃ b off, A2 = some ⟨b, off, none⟩ ∧ W.cell? ⟨b, off + j, none⟩ = some (.string E[j])) := Lib.hid hat2
  have x0 : W.cell? ⟨w.heap.size, 0, none⟩ = some (.int .i64 n) := by rw [cell_of_block hb1]; rfl
  have x1 : W.cell? ⟨w.heap.size, 1, none⟩ = some (.slice A1 m c1) := by rw [cell_of_block hb1]; rfl
  have x2 : W.cell? ⟨w.heap.size, 2, none⟩ = some (.bool on) := by rw [cell_of_block hb1]; rfl
  have y0 : W.cell? ⟨w.heap.size + 1, 0, none⟩ = some (.int .i64 n) := by rw [cell_of_block hb2]; rfl
  have y1 : W.cell? ⟨w.heap.size + 1, 1, none⟩ = some (.slice A2 m c2) := by rw [cell_of_block hb2]; rfl
  have y2 : W.cell? ⟨w.heap.size + 1, 2, none⟩ = some (.bool on) := by rw [cell_of_block hb2]; rfl
  have hmb : m ≤ 9223372036854775807 := by
    obtain ⟨A', c', hv, h4, ⟨h5, -⟩, -⟩ := h1
    unfold maxLen at h5
    omega
  clear hb1 hb2 hg hm h1 h2 hat1 hat2 a2 b2 hm1
  go_enter Try.func14, Try.ntmps14
  go_upto_region 1 with (fail)
  rw [← hW]
  clear hW
  go_wp2_with fail
  clear x0 x1 x2 y0 y1 y2
  go_loopw [5] (fun i wr => ∃ j : Nat, j ≤ m ∧ i = .int .i64 j ∧ Hid (Gr W wr)) (fun i _ => m - (intOf i).toNat)
  case atStart => exact ⟨0, Nat.zero_le _, rfl, Lib.hid (Gr.refl _)⟩
  case round =>
    obtain ⟨j, hj, rfl, hst⟩ := hrel
    rename World => wr
    have x1 : wr.cell? ⟨w.heap.size, 1, none⟩ = some (.slice A1 m c1) := by rw [cell_of_block (gr_obj hst.out HB1.out)]; rfl
    have y1 : wr.cell? ⟨w.heap.size + 1, 1, none⟩ = some (.slice A2 m c2) := by rw [cell_of_block (gr_obj hst.out HB2.out)]; rfl
    by_cases hjn : j < m
    · have hj0 : (0 : Int) ≤ (j : Int) := Int.natCast_nonneg _
      have hjn1 : (j : Int) < (m : Int) := by omega
      have hjl : j < E.length := by rw [← HM.out]; exact hjn
      obtain ⟨b, off, hA, q0⟩ := HA1.out j hjl
      subst hA
      obtain ⟨b2, off2, hA, q1⟩ := HA2.out j hjl
      subst hA
      obtain ⟨s, hs⟩ : ∃ s, s = E[j] := ⟨_, rfl⟩
      rw [← hs] at q0 q1
      have q0 := hst.out.cell q0
      have q1 := hst.out.cell q1
      have hee : (s.toList == s.toList) = true := by simp
      have HH := Lib.hid (And.intro x1 (And.intro y1 (And.intro q0 q1)))
      have HGR := Lib.hid hst.out
      clear hs hst q0 q1
      go_upto_region 6 with (fail)
      clear x1 y1
      refine qRegion (fun w' => w'.cell? ⟨w.heap.size, 1, none⟩ = some (.slice (some ⟨b, off, none⟩) m c1) ∧ w'.cell? ⟨w.heap.size + 1, 1, none⟩ = some (.slice (some ⟨b2, off2, none⟩) m c2) ∧ w'.cell? ⟨b, off + j, none⟩ = some (.string s) ∧ w'.cell? ⟨b2, off2 + j, none⟩ = some (.string s) ∧ Gr wr w') (by kernel_rfl) (by kernel_rfl) ⟨(Gr.refl _).drew.cell HH.out.1, (Gr.refl _).drew.cell HH.out.2.1, (Gr.refl _).drew.cell HH.out.2.2.1, (Gr.refl _).drew.cell HH.out.2.2.2, (Gr.refl _).drew⟩ ?_
      iterate 11
        refine qTake (by kernel_rfl) ?_
        apply Exists.intro
        refine ⟨fun wq hq => ?_, ?_⟩
        · go_light
          obtain ⟨d0, d1, d2, d3, -⟩ := hq
          go_simp
          try with_reducible rfl
          done
        try simp only [Act.put, List.setIfInBounds_toArray, List.set_cons_zero, List.set_cons_succ]
      refine qNil ?_
      intro w3 hC
      have HG3 := Lib.hid (HGR.out.trans hC.2.2.2.2)
      clear hC
      go_wp2_with fail
      go_roundw
      case measure => simp [intOf]; omega
      case rel => exact ⟨j + 1, by omega, by go_num, HG3⟩
    · obtain rfl : j = m := by omega
      have HE := Lib.hid hst.out
      clear hst
      go_wp2_with fail
      go_ret
      exact ⟨rfl, HG.out.trans HE.out⟩
end Go.Proofs.Ytaldgjcbbjjceaa
