/- Walk: a packet twice. -/
import Derived.Test.YtfmfeokjnkbpeaaWiI
namespace Go.Proofs.Ytfmfeokjnkbpeaa.Wi
open Go.RowKit

theorem slice_lh_g {P : Program} (t : TypeId) (size : Nat) (he : P.underlying t = some (.slice (P.elem t))) (hz : ∀ W : World, (sizeOf (P.elem t)).run P W = .ok size W) (n c l k : Nat) (hl : l ≤ k) (hk : k ≤ c) (A : Option Addr) :
    ∀ W : World, (Instr.slice t (.slice A n c) (some (.int .i64 (l : Int))) (some (.int .i64 (k : Int))) none).run P W = .ok (sliced A l k c size) W := by
  intro W
  rw [run_slice_lh W _ A n c he .i64 .i64 (l : Int) (k : Int) (by omega) (by omega) (by omega), hz]
  rfl
/-- The element at a place, as a slice of its own. -/
theorem PV.at_ {w : World} {A : Option Addr} {n c k : Nat} {L : List P} (h : PV w (.slice A n c) L) (hk : k < L.length) : PV w (sliced A k (k + 1) c 4) [L[k]] := by
  have hn : n = L.length := by obtain ⟨A', c', hv, _⟩ := id h; injection hv
  have h1 := h.take (k := k + 1) (by omega)
  have h2 := h1.drop (k := k) (by omega)
  have e : (L.take (k + 1)).drop k = [L[k]] := by
    rw [take_snoc hk, List.drop_append, List.drop_of_length_le (by rw [List.length_take]; omega), List.length_take, Nat.min_eq_left (by omega), Nat.sub_self]
    rfl
  rw [e] at h2
  exact h2
set_option maxRecDepth 100000 in
set_option maxHeartbeats 4000000 in
theorem twice_gone (v : Value) (L : List P) (nx : Int) (s : Nat → Int) (k : Int) (hk : thereB k L.length = false) (w : World) (hv : PV w v L) :
    Calls Try.prog 14 #[.agg (ncells v nx s), .int .i64 k] w fun e w' => RetNetE [] 0 zs 40 w e w' := by
  obtain ⟨A, c, hva, hc1, ⟨hc2, -⟩, -⟩ := id hv
  unfold maxLen at hc2
  obtain ⟨n, hn⟩ : ∃ n, n = L.length := ⟨_, rfl⟩
  rw [← hn] at hva hk hc1
  subst hva
  obtain ⟨W, hW, hG, hB0, hF0, hB1, hF1, hz⟩ := boxesNN (.slice A n c) nx s w
  have HT := Lib.hid (there_any A n c ⟨hc1, hc2⟩ nx s k W)
  rw [hk] at HT
  have HB1 := Lib.hid hB1
  have HF1 := Lib.hid hF1
  have HG := Lib.hid hG
  clear hF0 hB1 hF1 hG hv hz hn hk
  obtain ⟨a0, a1, a2, a3, a4, a5, a6, a7, a8, a9⟩ := hB0
  go_enter Try.func14, Try.ntmps14
  go_upto_region 1 with (fail)
  rw [← hW]
  clear hW
  go_wp2_with fail
  clear a0 a1 a2 a3 a4 a5 a6 a7 a8 a9
  refine HT.out.mono ?_
  rintro e w2 ⟨rfl, g2⟩
  obtain ⟨b0, b1, b2, b3, b4, b5, b6, b7, b8, b9⟩ := HB1.out.gr g2
  obtain ⟨-, y0, y1, y2, y3, y4, y5, y6, y7, y8, y9⟩ := HF1.out.gr g2
  have HG2 := Lib.hid (HG.out.trans g2)
  clear g2
  go_wp2
  refine bodyPost_ret (v := .tuple #[.agg (ncells (.slice none 0 0) 0 zs), .int .i64 40]) (by simp [results, Try.results14, go_sem, zs, b0, b1, b2, b3, b4, b5, b6, b7, b8, b9]) rfl ⟨_, rfl, PO.nil _ _, ?_⟩
  exact below_put10 HG2.out (Nat.le_succ _) _ _ _ _ _ _ _ _ _ _
set_option maxRecDepth 100000 in
set_option maxHeartbeats 4000000 in
theorem twice_full (v : Value) (L : List P) (nx : Int) (s : Nat → Int) (k : Nat) (hk : k < L.length) (hl : 1024 ≤ L.length) (w : World) (hv : PV w v L) :
    Calls Try.prog 14 #[.agg (ncells v nx s), .int .i64 k] w fun e w' => RetNetE [] 0 zs 4 w e w' := by
  obtain ⟨A, c, hva, hc1, ⟨hc2, -⟩, -⟩ := id hv
  unfold maxLen at hc2
  obtain ⟨n, hn⟩ : ∃ n, n = L.length := ⟨_, rfl⟩
  rw [← hn] at hva hk hc1 hl
  subst hva
  obtain ⟨W, hW, hG, hB0, hF0, hB1, hF1, hz⟩ := boxesNN (.slice A n c) nx s w
  have HT := Lib.hid (there_any A n c ⟨hc1, hc2⟩ nx s k W)
  rw [there_iff.2 ⟨k, rfl, hk⟩] at HT
  have HB0 := Lib.hid hB0
  have HB1 := Lib.hid hB1
  have HF1 := Lib.hid hF1
  have HG := Lib.hid hG
  clear hF0 hB1 hF1 hG hv hz hn hk
  have hli : (1024 : Int) ≤ (n : Int) := by omega
  obtain ⟨a0, a1, a2, a3, a4, a5, a6, a7, a8, a9⟩ := hB0
  go_enter Try.func14, Try.ntmps14
  go_upto_region 1 with (fail)
  rw [← hW]
  clear hW
  go_wp2_with fail
  clear a0 a1 a2 a3 a4 a5 a6 a7 a8 a9
  refine HT.out.mono ?_
  rintro e w2 ⟨rfl, g2⟩
  have a0 := (HB0.out.gr g2).1
  obtain ⟨b0, b1, b2, b3, b4, b5, b6, b7, b8, b9⟩ := HB1.out.gr g2
  obtain ⟨-, y0, y1, y2, y3, y4, y5, y6, y7, y8, y9⟩ := HF1.out.gr g2
  have HG2 := Lib.hid (HG.out.trans g2)
  clear g2
  go_wp2
  refine bodyPost_ret (v := .tuple #[.agg (ncells (.slice none 0 0) 0 zs), .int .i64 4]) (by simp [results, Try.results14, go_sem, zs, b0, b1, b2, b3, b4, b5, b6, b7, b8, b9]) rfl ⟨_, rfl, PO.nil _ _, ?_⟩
  exact below_put10 HG2.out (Nat.le_succ _) _ _ _ _ _ _ _ _ _ _

set_option maxRecDepth 100000 in
set_option maxHeartbeats 4000000 in
theorem twice_yes (v : Value) (L : List P) (nx : Int) (s : Nat → Int) (k : Nat) (hk : k < L.length) (hl : L.length < 1024) (w : World) (hv : PV w v L) (hf : Fit L) :
    Calls Try.prog 14 #[.agg (ncells v nx s), .int .i64 k] w fun e w' => RetNetE (L ++ [L[k]]) nx s 0 w e w' := by
  obtain ⟨A, c, hva, hc1, ⟨hc2, -⟩, -⟩ := id hv
  unfold maxLen at hc2
  obtain ⟨L2, hL2⟩ : ∃ l, l = L ++ [L[k]] := ⟨_, rfl⟩
  have hel : [L, [L[k]]].flatten = L2 := by rw [hL2]; simp
  have hbl : L2.length * 40 ≤ 140737488355328 := by rw [hL2, List.length_append, List.length_singleton]; omega
  have hat := hv
  rw [hva] at hat
  have hat := hat.at_ hk
  have hff : ∀ l ∈ [L, [L[k]]], Fit l := fun l hl => by
    simp only [List.mem_cons, List.not_mem_nil, or_false] at hl
    rcases hl with rfl | rfl
    · exact hf
    · exact fun p hp => by rw [List.mem_singleton.1 hp]; exact hf _ (List.getElem_mem hk)
  obtain ⟨n, hn⟩ : ∃ n, n = L.length := ⟨_, rfl⟩
  rw [← hn] at hva hc1 hl
  have hkn : k < n := by omega
  subst hva
  have hs1 := slice_lh_g _ 4 elemPacket sizePacket n c k (k + 1) (by omega) (by omega) A
  obtain ⟨A2, hA2⟩ := sliced_form A k (k + 1) c 4
  rw [hA2] at hs1 hat
  rw [show (((k + 1 : Nat) : Int)) = (k : Int) + 1 by omega] at hs1
  have e1 : IntKind.i64.wrap ((k : Int) + 1) = (k : Int) + 1 := IntWalk.i64_in _ ⟨by omega, by omega⟩
  obtain ⟨n2, hn2⟩ : ∃ m, m = k + 1 - k := ⟨_, rfl⟩
  obtain ⟨c2, hc2'⟩ : ∃ m, m = c - k := ⟨_, rfl⟩
  rw [← hn2, ← hc2'] at hs1 hat
  obtain ⟨W, hW, hG, hB0, hF0, hB1, hF1, hz⟩ := boxesNN (.slice A n c) nx s w
  have HT := Lib.hid (there_any A n c ⟨hc1, hc2⟩ nx s k W)
  rw [there_iff.2 ⟨k, rfl, hkn⟩] at HT
  have HC := Lib.hid (fun W2 (q : Gr W W2) => bagOf_any _ [L, [L[k]]] _ (parts2 _ _ _ _ W2 ((hv.gr hG).gr q) ((hat.gr hG).gr q)) hff (by rw [hel]; exact hbl))
  rw [hel] at HC
  have HB0 := Lib.hid hB0
  have HF0 := Lib.hid hF0
  have HB1 := Lib.hid hB1
  have HF1 := Lib.hid hF1
  have HG := Lib.hid hG
  have HZ := Lib.hid hz
  have hli : ¬ (1024 : Int) ≤ (n : Int) := by omega
  have HS1 := Lib.hid hs1
  rw [← hL2]
  have a0 := hB0.1
  obtain ⟨-, a1, a2, a3, a4, a5, a6, a7, a8, a9⟩ := hB0
  clear hF0 hB1 hF1 hG hv hat hz hn hel hbl hff hL2 hA2 hn2 hc2' hs1 hl hkn
  go_enter Try.func14, Try.ntmps14
  go_upto_region 1 with (fail)
  rw [← hW]
  clear hW
  go_wp2_with fail
  clear a0 a1 a2 a3 a4 a5 a6 a7 a8 a9
  refine HT.out.mono ?_
  rintro e w2 ⟨rfl, g2⟩
  have a0 := (HB0.out.gr g2).1
  have HG2 := Lib.hid g2
  have hs1 := HS1.out
  clear g2
  go_wp2_with fail
  go_still_tail 8, (by kernel_rfl)
  obtain ⟨W5, hW5, G5⟩ : ∃ W5, W5 = w2.drew ∧ Gr W W5 := ⟨_, rfl, HG2.out.drew⟩
  change wpList _ _ _ _ _ w2.drew
  rw [← hW5]
  clear hW5 a0 hs1 e1
  have HG5 := Lib.hid G5
  clear G5
  go_wp2_with fail
  refine (HC.out _ HG5.out).mono ?_
  rintro e w4 ⟨v4, rfl, hown, g4⟩
  obtain ⟨A4, c4, hv4, -, -⟩ := hown.form
  obtain ⟨n4, hn4⟩ : ∃ m, m = L2.length := ⟨_, rfl⟩
  rw [← hn4] at hv4
  subst hv4
  have g5 : Gr W w4 := (HG5.out.trans (gr_box _ _)).trans g4
  obtain ⟨a0, a1, a2, a3, a4, a5, a6, a7, a8, a9⟩ := HB0.out.gr g5
  obtain ⟨-, x0, x1, x2, x3, x4, x5, x6, x7, x8, x9⟩ := HF0.out.gr g5
  obtain ⟨b0, b1, b2, b3, b4, b5, b6, b7, b8, b9⟩ := HB1.out.gr g5
  obtain ⟨-, y0, y1, y2, y3, y4, y5, y6, y7, y8, y9⟩ := HF1.out.gr g5
  have hB : w.heap.size + 1 + 1 ≤ (W5.alloc (.cells #[.slice A n c, .slice A2 n2 c2] 22)).heap.size := by
    have := HG5.out.size
    rw [← HZ.out]
    simp
    omega
  have HO := Lib.hid (hown.le hB)
  have HG4 := Lib.hid (HG.out.trans g5)
  clear hown g4 g5 hB hn4
  go_wp2
  refine bodyPost_ret (v := .tuple #[.agg (ncells (.slice A4 n4 c4) nx s), .int .i64 0]) (by simp [results, Try.results14, go_sem, b0, b1, b2, b3, b4, b5, b6, b7, b8, b9]) rfl ⟨_, rfl, ?_, ?_⟩
  · exact own_le (own_put10 (ownsRow_setCell_below HO.out (a := ⟨w.heap.size, 0, none⟩) (show w.heap.size < w.heap.size + 1 + 1 by omega) _) (Nat.lt_succ_self _) _ _ _ _ _ _ _ _ _ _) (by omega)
  · exact below_put10 (Below.setCell HG4.out (Nat.le_refl _) _) (Nat.le_succ _) _ _ _ _ _ _ _ _ _ _
end Go.Proofs.Ytfmfeokjnkbpeaa.Wi
