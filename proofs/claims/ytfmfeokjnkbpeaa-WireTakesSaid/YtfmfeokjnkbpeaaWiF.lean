/- Walk: a net without a packet. -/
import Derived.Test.YtfmfeokjnkbpeaaWiE
namespace Go.Proofs.Ytfmfeokjnkbpeaa.Wi
open Go.RowKit

theorem elemPacket : Try.prog.underlying 22 = some (.slice (Try.prog.elem 22)) := by kernel_rfl
theorem sizePacket : ∀ W : World, (sizeOf (Try.prog.elem 22)).run Try.prog W = .ok 4 W := fun W => by kernel_rfl
theorem PV.take {w : World} {A : Option Addr} {n c k : Nat} {L : List P} (h : PV w (.slice A n c) L) (hk : k ≤ n) : PV w (.slice A k c) (L.take k) := by
  have hn : n = L.length := by obtain ⟨A', c', hv, _⟩ := id h; injection hv
  subst hn
  have h2 := h.sl.take hk
  unfold prows at h2
  rw [rows_take prow 4 prow_len] at h2
  exact PV.of_sl h2
theorem PV.drop {w : World} {A : Option Addr} {n c k : Nat} {L : List P} (h : PV w (.slice A n c) L) (hk : k ≤ n) : PV w (sliced A k n c 4) (L.drop k) := by
  have hn : n = L.length := by obtain ⟨A', c', hv, _⟩ := id h; injection hv
  subst hn
  have h2 := h.sl.drop hk
  unfold prows at h2
  rw [rows_drop prow 4 prow_len] at h2
  exact PV.of_sl h2
theorem sliced_form (A : Option Addr) (k n c s : Nat) : ∃ A', sliced A k n c s = .slice A' (n - k) (c - k) := ⟨_, rfl⟩
def less (L : List P) (k : Nat) : List P := L.take k ++ L.drop (k + 1)
theorem Fit.take {L : List P} (h : Fit L) (k : Nat) : Fit (L.take k) := fun p hp => h p (List.mem_of_mem_take hp)
theorem Fit.drop {L : List P} (h : Fit L) (k : Nat) : Fit (L.drop k) := fun p hp => h p (List.mem_of_mem_drop hp)
theorem less_len {L : List P} {k : Nat} (h : k < L.length) : (less L k).length = L.length - 1 := by
  unfold less
  rw [List.length_append, List.length_take, List.length_drop]
  omega
set_option maxRecDepth 100000 in
set_option maxHeartbeats 4000000 in
theorem without_any (v : Value) (L : List P) (nx : Int) (s : Nat → Int) (k : Nat) (hk : k < L.length) (w : World) (hv : PV w v L) (hf : Fit L) (hlen : L.length * 40 ≤ 140737488355328) :
    Calls Try.prog 22 #[.agg (ncells v nx s), .int .i64 k] w fun e w' => RetNet (less L k) nx s w e w' := by
  obtain ⟨A, c, hva, hc1, ⟨hc2, -⟩, -⟩ := id hv
  unfold maxLen at hc2
  obtain ⟨n, hn⟩ : ∃ n, n = L.length := ⟨_, rfl⟩
  rw [← hn] at hva hk hc1
  subst hva
  obtain ⟨W, hW, hG, hB0, hF0, hB1, hF1, hz⟩ := boxesNN (.slice A n c) nx s w
  have hs1 := slice_to_g _ 4 elemPacket sizePacket n c k (by omega) A
  have hs2 := slice_from_g _ 4 elemPacket sizePacket n c (k + 1) (by omega) A
  obtain ⟨A2, hA2⟩ := sliced_form A (k + 1) n c 4
  rw [hA2] at hs2
  rw [show (((k + 1 : Nat) : Int)) = (k : Int) + 1 by omega] at hs2
  have e1 : IntKind.i64.wrap ((k : Int) + 1) = (k : Int) + 1 := IntWalk.i64_in _ ⟨by omega, by omega⟩
  have hp1 := hv.take (k := k) (by omega)
  have hp2 := hv.drop (k := k + 1) (by omega)
  rw [hA2] at hp2
  obtain ⟨n2, hn2⟩ : ∃ m, m = n - (k + 1) := ⟨_, rfl⟩
  obtain ⟨c2, hc2'⟩ : ∃ m, m = c - (k + 1) := ⟨_, rfl⟩
  rw [← hn2, ← hc2'] at hs2 hp2
  have HL : Hid ((less L k).length * 40 ≤ 140737488355328) := Lib.hid (by rw [less_len (by rw [← hn]; exact hk), ← hn]; omega)
  have HC := Lib.hid (fun W2 (q : Gr W W2) => bagOf_any _ [L.take k, L.drop (k + 1)] _ (parts2 _ _ _ _ W2 ((hp1.gr hG).gr q) ((hp2.gr hG).gr q)) (fun l hl => by
      simp only [List.mem_cons, List.not_mem_nil, or_false] at hl
      rcases hl with rfl | rfl
      · exact hf.take k
      · exact hf.drop _) (by have e : [L.take k, L.drop (k + 1)].flatten = less L k := by simp [less]
                             rw [e]; exact HL.out))
  have e2 : [L.take k, L.drop (k + 1)].flatten = less L k := by simp [less]
  rw [e2] at HC
  have HB0 := Lib.hid hB0
  have HF0 := Lib.hid hF0
  have HB1 := Lib.hid hB1
  have HF1 := Lib.hid hF1
  have HG := Lib.hid hG
  have HZ := Lib.hid hz
  have a0 := hB0.1
  clear hB0 hF0 hB1 hF1 hG hv hz hp1 hp2 hA2 e2 hn2 hc2' hn hlen HL
  go_enter Try.func22, Try.ntmps22
  go_upto_region 1 with (fail)
  rw [← hW]
  clear hW
  go_still_tail 9, (by kernel_rfl)
  obtain ⟨W2, hW2, G2⟩ : ∃ W2, W2 = W.drew ∧ Gr W W2 := ⟨_, rfl, (Gr.refl W).drew⟩
  change wpList _ _ _ _ _ W.drew
  rw [← hW2]
  have HG2 := Lib.hid G2
  clear hW2 G2 a0
  go_wp2_with fail
  refine (HC.out _ HG2.out).mono ?_
  rintro e w4 ⟨v4, rfl, hown, g4⟩
  obtain ⟨A4, c4, hv4, -, -⟩ := hown.form
  obtain ⟨n4, hn4⟩ : ∃ m, m = (less L k).length := ⟨_, rfl⟩
  rw [← hn4] at hv4
  subst hv4
  have g5 : Gr W w4 := (HG2.out.trans (gr_box _ _)).trans g4
  obtain ⟨a0, a1, a2, a3, a4, a5, a6, a7, a8, a9⟩ := HB0.out.gr g5
  obtain ⟨-, x0, x1, x2, x3, x4, x5, x6, x7, x8, x9⟩ := HF0.out.gr g5
  obtain ⟨b0, b1, b2, b3, b4, b5, b6, b7, b8, b9⟩ := HB1.out.gr g5
  obtain ⟨-, y0, y1, y2, y3, y4, y5, y6, y7, y8, y9⟩ := HF1.out.gr g5
  have hB : w.heap.size + 1 + 1 ≤ (W2.alloc (.cells #[.slice A k c, .slice A2 n2 c2] 22)).heap.size := by
    have := HG2.out.size
    rw [← HZ.out]
    simp
    omega
  have HO := Lib.hid (hown.le hB)
  have HG4 := Lib.hid (HG.out.trans g5)
  clear hown g4 g5 hB hn4
  go_wp2
  refine bodyPost_ret (v := .agg (ncells (.slice A4 n4 c4) nx s)) (by simp [results, Try.results22, go_sem, b0, b1, b2, b3, b4, b5, b6, b7, b8, b9]) rfl ⟨_, rfl, ?_, ?_⟩
  · exact own_le (own_put10 (ownsRow_setCell_below HO.out (a := ⟨w.heap.size, 0, none⟩) (show w.heap.size < w.heap.size + 1 + 1 by omega) _) (Nat.lt_succ_self _) _ _ _ _ _ _ _ _ _ _) (by omega)
  · exact below_put10 (Below.setCell HG4.out (Nat.le_refl _) _) (Nat.le_succ _) _ _ _ _ _ _ _ _ _ _
end Go.Proofs.Ytfmfeokjnkbpeaa.Wi
