/- Walks: the document's copy of a net, and its net without a packet. -/
import Derived.Test.YtfmfeokjnkbpeaaWiF
namespace Go.Proofs.Ytfmfeokjnkbpeaa.Wi
open Go.RowKit

set_option maxRecDepth 100000 in
set_option maxHeartbeats 4000000 in
theorem rcopy_any (v : Value) (L : List P) (nx : Int) (s : Nat → Int) (w : World) (hv : PV w v L) (hlen : L.length * 40 ≤ 140737488355328) :
    Calls Try.prog 28 #[.agg (ncells v nx s)] w fun e w' => RetNet L nx s w e w' := by
  obtain ⟨A, c, hva, _⟩ := id hv
  obtain ⟨i0, hi, hz0, hz1, hz2⟩ := info_parts infoPacket
  obtain ⟨n, hn⟩ : ∃ n, n = L.length := ⟨_, rfl⟩
  have HN := Lib.hid hn
  rw [← hn] at hva hlen
  have hsl := hv.sl
  rw [← hn] at hsl
  subst hva
  clear hn
  obtain ⟨W, hW, hG, hB0, hF0, hB1, hF1, hz⟩ := boxesNN (.slice A n c) nx s w
  obtain ⟨W3, hW3, hG3, hown3⟩ : ∃ W3, W3 = W.alloc (.cells #[] 31) ∧ Gr W W3 ∧ W3.ownsRow (w.heap.size + 1 + 1) 31 4 (.slice (some ⟨w.heap.size + 1 + 1, 0, none⟩) 0 0) 0 [] := by
    rw [← hz]
    exact ⟨_, rfl, gr_box _ _, own_none W _ 4⟩
  have HO3 := Lib.hid hown3
  have HSL := Lib.hid (hsl.gr (hG.trans hG3))
  have HB0 := Lib.hid (hB0.gr hG3)
  have HF0 := Lib.hid (hF0.gr hG3)
  have HB1 := Lib.hid (hB1.gr hG3)
  have HF1 := Lib.hid (hF1.gr hG3)
  have HG3 := Lib.hid (hG.trans hG3)
  have hz3 : w.heap.size + 1 + 1 ≤ W3.heap.size := (hF1.gr hG3).1
  have HCC : Hid (0 + n ≤ maxLen ∧ (0 + n) * 40 ≤ 140737488355328) := Lib.hid ⟨by unfold maxLen; omega, by omega⟩
  have HONE := Lib.hid (prows_one L)
  obtain ⟨a0, a1, a2, a3, a4, a5, a6, a7, a8, a9⟩ := HB0.out
  clear hB0 hF0 hB1 hF1 hG hv hz hG3 hown3 hsl hlen
  go_enter Try.func28, Try.ntmps28
  go_wp2_with (at_builtin; rw [← hW, ← hW3]; refine wpList_append_sl _ rfl (.tmp 3) (.tmp 5) 22 rfl (w.heap.size + 1 + 1) 31 i0 _ 4 40 Try.underlying22 hi hz0 hz1 hz2 rfl (by decide) (.slice (some ⟨w.heap.size + 1 + 1, 0, none⟩) 0 0) 0 [] rfl HO3.out (.slice A n c) n (prows L) rfl HSL.out HONE.out HCC.out.1 HCC.out.2 hz3 n (Nat.zero_add _) ?_)
  intro A4 c4 w4 hown4 hgr hat
  rw [← hW, ← hW3] at hgr
  have hb : ∀ b, b < w.heap.size + 1 + 1 → some b ≠ (Value.slice (some ⟨w.heap.size + 1 + 1, 0, none⟩) 0 0).ownBlock := fun b hb e => by
    have e2 : b = w.heap.size + 1 + 1 := by simpa [Value.ownBlock] using e
    omega
  have kc : ∀ b i u, b < w.heap.size + 1 + 1 → W3.cell? ⟨b, i, none⟩ = some u → w4.cell? ⟨b, i, none⟩ = some u := fun b i u hb' h => hgr.cell h (hb b hb')
  have kf : ∀ b i, b < w.heap.size + 1 + 1 → W3.frozen? ⟨b, i, none⟩ = false → w4.frozen? ⟨b, i, none⟩ = false := fun b i hb' h => (hgr.frozen_far ⟨b, i, none⟩ (show b < W3.heap.size by omega) (hb b hb')).trans h
  have g4 : Below (w.heap.size + 1 + 1) W3 w4 := Kp.below hgr (by omega) (fun g hg => (HO3.out.lt g hg).1)
  clear a0 a1 a2 a3 a4 a5 a6 a7 a8 a9
  have l0 : w.heap.size < w.heap.size + 1 + 1 := by omega
  have l1 : w.heap.size + 1 < w.heap.size + 1 + 1 := by omega
  obtain ⟨a0, a1, a2, a3, a4, a5, a6, a7, a8, a9⟩ := HB0.out
  obtain ⟨-, x0, x1, x2, x3, x4, x5, x6, x7, x8, x9⟩ := HF0.out
  obtain ⟨b0, b1, b2, b3, b4, b5, b6, b7, b8, b9⟩ := HB1.out
  obtain ⟨-, y0, y1, y2, y3, y4, y5, y6, y7, y8, y9⟩ := HF1.out
  replace a0 := kc _ _ _ l0 a0
  replace a1 := kc _ _ _ l0 a1
  replace a2 := kc _ _ _ l0 a2
  replace a3 := kc _ _ _ l0 a3
  replace a4 := kc _ _ _ l0 a4
  replace a5 := kc _ _ _ l0 a5
  replace a6 := kc _ _ _ l0 a6
  replace a7 := kc _ _ _ l0 a7
  replace a8 := kc _ _ _ l0 a8
  replace a9 := kc _ _ _ l0 a9
  replace x0 := kf _ _ l0 x0
  replace b0 := kc _ _ _ l1 b0
  replace b1 := kc _ _ _ l1 b1
  replace b2 := kc _ _ _ l1 b2
  replace b3 := kc _ _ _ l1 b3
  replace b4 := kc _ _ _ l1 b4
  replace b5 := kc _ _ _ l1 b5
  replace b6 := kc _ _ _ l1 b6
  replace b7 := kc _ _ _ l1 b7
  replace b8 := kc _ _ _ l1 b8
  replace b9 := kc _ _ _ l1 b9
  replace y0 := kf _ _ l1 y0
  replace y1 := kf _ _ l1 y1
  replace y2 := kf _ _ l1 y2
  replace y3 := kf _ _ l1 y3
  replace y4 := kf _ _ l1 y4
  replace y5 := kf _ _ l1 y5
  replace y6 := kf _ _ l1 y6
  replace y7 := kf _ _ l1 y7
  replace y8 := kf _ _ l1 y8
  replace y9 := kf _ _ l1 y9
  have HO : Hid (PO w4 (w.heap.size + 1 + 1) (.slice A4 n c4) L) := by
    unfold PO
    rw [← HN.out]
    exact hown4
  have HG4 : Hid (Gr w w4) := Lib.hid (Below.trans HG3.out (Below.mono g4 (by omega)))
  clear hown4 hgr hat hb kc kf g4 x1 x2 x3 x4 x5 x6 x7 x8 x9 hW hW3
  go_wp2
  refine bodyPost_ret (v := .agg (ncells (.slice A4 n c4) nx s)) (by simp [results, Try.results28, go_sem, b0, b1, b2, b3, b4, b5, b6, b7, b8, b9]) rfl ⟨_, rfl, ?_, ?_⟩
  · exact own_le (own_put10 (ownsRow_setCell_below HO.out (a := ⟨w.heap.size, 0, none⟩) l0 _) l1 _ _ _ _ _ _ _ _ _ _) (by omega)
  · exact below_put10 (Below.setCell HG4.out (Nat.le_refl _) _) (Nat.le_succ _) _ _ _ _ _ _ _ _ _ _
end Go.Proofs.Ytfmfeokjnkbpeaa.Wi
