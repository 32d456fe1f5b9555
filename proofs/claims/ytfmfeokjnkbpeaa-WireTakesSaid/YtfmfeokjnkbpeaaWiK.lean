/- Walk: a packet sent. -/
import Derived.Test.YtfmfeokjnkbpeaaWiJ
namespace Go.Proofs.Ytfmfeokjnkbpeaa.Wi
open Go.RowKit

/-- A call's answer: no net, and an error. -/
def RetBad (w : World) (e : Ending) (w' : World) : Prop := ∃ er : Int, er ≠ 0 ∧ RetNetE [] 0 zs er w e w'

set_option maxRecDepth 100000 in
set_option maxHeartbeats 4000000 in
theorem send_src (v : Value) (L : List P) (nx : Int) (s : Nat → Int) (a b : Int) (x : ByteArray) (w : World) (hv : PV w v L) (_hx : x.size ≤ 9223372036854775807) (ha : mem a = false) :
    Calls Try.prog 16 #[.agg (ncells v nx s), .int .i64 a, .int .i64 b, .string x] w fun e w' => RetNetE [] 0 zs 1 w e w' := by
  obtain ⟨A, c, hva, hc1, ⟨hc2, -⟩, -⟩ := id hv
  unfold maxLen at hc2
  obtain ⟨n, hn⟩ : ∃ n, n = L.length := ⟨_, rfl⟩
  rw [← hn] at hva hc1
  subst hva
  obtain ⟨W, hW, hG, hB0, hF0, hB1, hF1, hz⟩ := boxesNN (.slice A n c) nx s w
  have HMA := Lib.hid (fun w => member_any a w)
  have HMB := Lib.hid (fun w => member_any b w)
  rw [ha] at HMA
  have HB0 := Lib.hid hB0
  have HB1 := Lib.hid hB1
  have HF1 := Lib.hid hF1
  have HG := Lib.hid hG
  clear hF0 hB0 hB1 hF1 hG hv hz hn ha
  go_enter Try.func16, Try.ntmps16
  go_upto_region 1 with (fail)
  rw [← hW]
  clear hW
  go_wp2_with fail
  refine (HMA.out _).mono ?_
  rintro e w2 ⟨rfl, hww⟩
  subst hww
  have a0 := HB0.out.1
  obtain ⟨b0, b1, b2, b3, b4, b5, b6, b7, b8, b9⟩ := HB1.out
  obtain ⟨-, y0, y1, y2, y3, y4, y5, y6, y7, y8, y9⟩ := HF1.out
  go_wp2
  refine bodyPost_ret (v := .tuple #[.agg (ncells (.slice none 0 0) 0 zs), .int .i64 1]) (by simp [results, Try.results16, go_sem, zs, b0, b1, b2, b3, b4, b5, b6, b7, b8, b9]) rfl ⟨_, rfl, PO.nil _ _, ?_⟩
  exact below_put10 HG.out (Nat.le_succ _) _ _ _ _ _ _ _ _ _ _

set_option maxRecDepth 100000 in
set_option maxHeartbeats 4000000 in
theorem send_dst (v : Value) (L : List P) (nx : Int) (s : Nat → Int) (a b : Int) (x : ByteArray) (w : World) (hv : PV w v L) (_hx : x.size ≤ 9223372036854775807) (ha : mem a = true) (hb : mem b = false) :
    Calls Try.prog 16 #[.agg (ncells v nx s), .int .i64 a, .int .i64 b, .string x] w fun e w' => RetNetE [] 0 zs 1 w e w' := by
  obtain ⟨A, c, hva, hc1, ⟨hc2, -⟩, -⟩ := id hv
  unfold maxLen at hc2
  obtain ⟨n, hn⟩ : ∃ n, n = L.length := ⟨_, rfl⟩
  rw [← hn] at hva hc1
  subst hva
  obtain ⟨W, hW, hG, hB0, hF0, hB1, hF1, hz⟩ := boxesNN (.slice A n c) nx s w
  have HMA := Lib.hid (fun w => member_any a w)
  have HMB := Lib.hid (fun w => member_any b w)
  rw [ha] at HMA
  rw [hb] at HMB
  have HB0 := Lib.hid hB0
  have HB1 := Lib.hid hB1
  have HF1 := Lib.hid hF1
  have HG := Lib.hid hG
  clear hF0 hB0 hB1 hF1 hG hv hz hn ha hb
  go_enter Try.func16, Try.ntmps16
  go_upto_region 1 with (fail)
  rw [← hW]
  clear hW
  go_wp2_with fail
  refine (HMA.out _).mono ?_
  rintro e w2 ⟨rfl, hww⟩
  subst hww
  go_wp2_with fail
  refine (HMB.out _).mono ?_
  rintro e w3 ⟨rfl, hww⟩
  subst hww
  have a0 := HB0.out.1
  obtain ⟨b0, b1, b2, b3, b4, b5, b6, b7, b8, b9⟩ := HB1.out
  obtain ⟨-, y0, y1, y2, y3, y4, y5, y6, y7, y8, y9⟩ := HF1.out
  go_wp2
  refine bodyPost_ret (v := .tuple #[.agg (ncells (.slice none 0 0) 0 zs), .int .i64 1]) (by simp [results, Try.results16, go_sem, zs, b0, b1, b2, b3, b4, b5, b6, b7, b8, b9]) rfl ⟨_, rfl, PO.nil _ _, ?_⟩
  exact below_put10 HG.out (Nat.le_succ _) _ _ _ _ _ _ _ _ _ _

set_option maxRecDepth 100000 in
set_option maxHeartbeats 4000000 in
theorem send_long (v : Value) (L : List P) (nx : Int) (s : Nat → Int) (a b : Int) (x : ByteArray) (w : World) (hv : PV w v L) (_hx : x.size ≤ 9223372036854775807) (ha : mem a = true) (hb : mem b = true) (hl : 1048576 < x.size) :
    Calls Try.prog 16 #[.agg (ncells v nx s), .int .i64 a, .int .i64 b, .string x] w fun e w' => RetNetE [] 0 zs 2 w e w' := by
  obtain ⟨A, c, hva, hc1, ⟨hc2, -⟩, -⟩ := id hv
  unfold maxLen at hc2
  obtain ⟨n, hn⟩ : ∃ n, n = L.length := ⟨_, rfl⟩
  rw [← hn] at hva hc1
  subst hva
  obtain ⟨W, hW, hG, hB0, hF0, hB1, hF1, hz⟩ := boxesNN (.slice A n c) nx s w
  have HMA := Lib.hid (fun w => member_any a w)
  have HMB := Lib.hid (fun w => member_any b w)
  rw [ha] at HMA
  rw [hb] at HMB
  have hli : (1048576 : Int) < (x.size : Int) := by omega
  have HB0 := Lib.hid hB0
  have HB1 := Lib.hid hB1
  have HF1 := Lib.hid hF1
  have HG := Lib.hid hG
  clear hF0 hB0 hB1 hF1 hG hv hz hn ha hb
  go_enter Try.func16, Try.ntmps16
  go_upto_region 1 with (fail)
  rw [← hW]
  clear hW
  go_wp2_with fail
  refine (HMA.out _).mono ?_
  rintro e w2 ⟨rfl, hww⟩
  subst hww
  go_wp2_with fail
  refine (HMB.out _).mono ?_
  rintro e w3 ⟨rfl, hww⟩
  subst hww
  have a0 := HB0.out.1
  obtain ⟨b0, b1, b2, b3, b4, b5, b6, b7, b8, b9⟩ := HB1.out
  obtain ⟨-, y0, y1, y2, y3, y4, y5, y6, y7, y8, y9⟩ := HF1.out
  go_wp2
  refine bodyPost_ret (v := .tuple #[.agg (ncells (.slice none 0 0) 0 zs), .int .i64 2]) (by simp [results, Try.results16, go_sem, zs, b0, b1, b2, b3, b4, b5, b6, b7, b8, b9]) rfl ⟨_, rfl, PO.nil _ _, ?_⟩
  exact below_put10 HG.out (Nat.le_succ _) _ _ _ _ _ _ _ _ _ _

set_option maxRecDepth 100000 in
set_option maxHeartbeats 4000000 in
theorem send_full (v : Value) (L : List P) (nx : Int) (s : Nat → Int) (a b : Int) (x : ByteArray) (w : World) (hv : PV w v L) (_hx : x.size ≤ 9223372036854775807) (ha : mem a = true) (hb : mem b = true) (hs : x.size ≤ 1048576) (hl : 1024 ≤ L.length) :
    Calls Try.prog 16 #[.agg (ncells v nx s), .int .i64 a, .int .i64 b, .string x] w fun e w' => RetNetE [] 0 zs 4 w e w' := by
  obtain ⟨A, c, hva, hc1, ⟨hc2, -⟩, -⟩ := id hv
  unfold maxLen at hc2
  obtain ⟨n, hn⟩ : ∃ n, n = L.length := ⟨_, rfl⟩
  rw [← hn] at hva hc1 hl
  subst hva
  obtain ⟨W, hW, hG, hB0, hF0, hB1, hF1, hz⟩ := boxesNN (.slice A n c) nx s w
  have HMA := Lib.hid (fun w => member_any a w)
  have HMB := Lib.hid (fun w => member_any b w)
  rw [ha] at HMA
  rw [hb] at HMB
  have hsi : ¬ (1048576 : Int) < (x.size : Int) := by omega
  have hli : (1024 : Int) ≤ (n : Int) := by omega
  have HB0 := Lib.hid hB0
  have HB1 := Lib.hid hB1
  have HF1 := Lib.hid hF1
  have HG := Lib.hid hG
  clear hF0 hB0 hB1 hF1 hG hv hz hn ha hb
  go_enter Try.func16, Try.ntmps16
  go_upto_region 1 with (fail)
  rw [← hW]
  clear hW
  go_wp2_with fail
  refine (HMA.out _).mono ?_
  rintro e w2 ⟨rfl, hww⟩
  subst hww
  go_wp2_with fail
  refine (HMB.out _).mono ?_
  rintro e w3 ⟨rfl, hww⟩
  subst hww
  have a0 := HB0.out.1
  obtain ⟨b0, b1, b2, b3, b4, b5, b6, b7, b8, b9⟩ := HB1.out
  obtain ⟨-, y0, y1, y2, y3, y4, y5, y6, y7, y8, y9⟩ := HF1.out
  go_wp2
  refine bodyPost_ret (v := .tuple #[.agg (ncells (.slice none 0 0) 0 zs), .int .i64 4]) (by simp [results, Try.results16, go_sem, zs, b0, b1, b2, b3, b4, b5, b6, b7, b8, b9]) rfl ⟨_, rfl, PO.nil _ _, ?_⟩
  exact below_put10 HG.out (Nat.le_succ _) _ _ _ _ _ _ _ _ _ _

set_option maxRecDepth 100000 in
set_option maxHeartbeats 4000000 in
theorem send_ok (v : Value) (L : List P) (nx : Int) (s : Nat → Int) (a b : Int) (x : ByteArray) (w : World) (hv : PV w v L) (ha : mem a = true) (hb : mem b = true) (hs : x.size ≤ 1048576) (hl : L.length < 1024) (hf : Fit L) :
    Calls Try.prog 16 #[.agg (ncells v nx s), .int .i64 a, .int .i64 b, .string x] w fun e w' => RetNetE (L ++ [⟨nx, a, b, x⟩]) (wrap64 (nx + 1)) s 0 w e w' := by
  obtain ⟨A, c, hva, hc1, ⟨hc2, -⟩, -⟩ := id hv
  unfold maxLen at hc2
  obtain ⟨L2, hL2⟩ : ∃ l, l = L ++ [⟨nx, a, b, x⟩] := ⟨_, rfl⟩
  have hel : [L, [(⟨nx, a, b, x⟩ : P)]].flatten = L2 := by rw [hL2]; simp
  have hbl : L2.length * 40 ≤ 140737488355328 := by rw [hL2, List.length_append, List.length_singleton]; omega
  have hff : ∀ l ∈ [L, [(⟨nx, a, b, x⟩ : P)]], Fit l := fun l hl => by
    simp only [List.mem_cons, List.not_mem_nil, or_false] at hl
    rcases hl with rfl | rfl
    · exact hf
    · exact fun p hp => by rw [List.mem_singleton.1 hp]; exact Nat.le_trans hs (by decide)
  obtain ⟨n, hn⟩ : ∃ n, n = L.length := ⟨_, rfl⟩
  rw [← hn] at hva hc1 hl
  subst hva
  have hsi : ¬ (1048576 : Int) < (x.size : Int) := by omega
  have hli : ¬ (1024 : Int) ≤ (n : Int) := by omega
  obtain ⟨W, hW, hG, hB0, hF0, hB1, hF1, hz⟩ := boxesNN (.slice A n c) nx s w
  have HMA := Lib.hid (fun w => member_any a w)
  have HMB := Lib.hid (fun w => member_any b w)
  rw [ha] at HMA
  rw [hb] at HMB
  obtain ⟨W3, hW3, hG3, hSP⟩ : ∃ W3, W3 = (W.alloc (.cells #[.int .i64 nx, .int .i64 a, .int .i64 b, .string x] 31)).alloc (.cells #[.slice A n c, .slice (some ⟨W.heap.size, 0, none⟩) 1 1] 22) ∧ Gr W W3 ∧ SP W3 (.slice (some ⟨W.heap.size + 1, 0, none⟩) 2 2) [L, [⟨nx, a, b, x⟩]] := by
    have h1 := PV.of_sl (L := [⟨nx, a, b, x⟩]) (sl_new W #[.int .i64 nx, .int .i64 a, .int .i64 b, .string x] 31 1 4 rfl (by unfold maxLen; omega))
    have h2 := parts2 (.slice A n c) (.slice (some ⟨W.heap.size, 0, none⟩) 1 1) L [⟨nx, a, b, x⟩] _ ((hv.gr hG).gr (gr_box W (.cells #[.int .i64 nx, .int .i64 a, .int .i64 b, .string x] 31))) h1
    rw [show (W.alloc (.cells #[.int .i64 nx, .int .i64 a, .int .i64 b, .string x] 31)).heap.size = W.heap.size + 1 by simp] at h2
    exact ⟨_, rfl, (gr_box W _).alloc _, h2⟩
  have HC := Lib.hid (bagOf_any _ [L, [⟨nx, a, b, x⟩]] W3 hSP hff (by rw [hel]; exact hbl))
  rw [hel] at HC
  have HB0 := Lib.hid hB0
  have HF0 := Lib.hid hF0
  have HB1 := Lib.hid hB1
  have HF1 := Lib.hid hF1
  have HG := Lib.hid hG
  have HG3 := Lib.hid hG3
  have HZ := Lib.hid hz
  have HH := Lib.hid hW3
  rw [← hL2]
  clear hF0 hB0 hB1 hF1 hG hG3 hv hz hn hel hbl hff hL2 hSP ha hb hl hs hW3
  go_enter Try.func16, Try.ntmps16
  go_upto_region 1 with (fail)
  rw [← hW]
  clear hW
  go_wp2_with fail
  refine (HMA.out _).mono ?_
  rintro e w2 ⟨rfl, hww⟩
  subst hww
  go_wp2_with fail
  refine (HMB.out _).mono ?_
  rintro e w3 ⟨rfl, hww⟩
  subst hww
  have a0 := HB0.out.1
  have a1 := HB0.out.2.1
  go_wp2_with fail
  rw [← HH.out]
  clear a0 a1
  refine HC.out.mono ?_
  rintro e w4 ⟨v4, rfl, hown, g4⟩
  obtain ⟨A4, c4, hv4, -, -⟩ := hown.form
  obtain ⟨n4, hn4⟩ : ∃ m, m = L2.length := ⟨_, rfl⟩
  rw [← hn4] at hv4
  subst hv4
  have g5 : Gr W3 w4 := g4
  obtain ⟨a0, a1, a2, a3, a4, a5, a6, a7, a8, a9⟩ := HB0.out.gr (HG3.out.trans g5)
  obtain ⟨-, x0, x1, x2, x3, x4, x5, x6, x7, x8, x9⟩ := HF0.out.gr (HG3.out.trans g5)
  obtain ⟨b0, b1, b2, b3, b4, b5, b6, b7, b8, b9⟩ := HB1.out.gr (HG3.out.trans g5)
  obtain ⟨-, y0, y1, y2, y3, y4, y5, y6, y7, y8, y9⟩ := HF1.out.gr (HG3.out.trans g5)
  have HO := Lib.hid (hown.le (B' := w.heap.size + 1 + 1) (by have := HZ.out; have := HG3.out.size; omega))
  have HG4 := Lib.hid (HG.out.trans (HG3.out.trans g5))
  clear hown g4 g5 hn4
  go_wp2
  refine bodyPost_ret (v := .tuple #[.agg (ncells (.slice A4 n4 c4) (wrap64 (nx + 1)) s), .int .i64 0]) (by simp [results, Try.results16, go_sem, b0, b1, b2, b3, b4, b5, b6, b7, b8, b9]) rfl ⟨_, rfl, ?_, ?_⟩
  · exact own_le (own_put10 (ownsRow_setCell_below (ownsRow_setCell_below HO.out (a := ⟨w.heap.size, 0, none⟩) (show w.heap.size < w.heap.size + 1 + 1 by omega) _) (a := ⟨w.heap.size, 1, none⟩) (show w.heap.size < w.heap.size + 1 + 1 by omega) _) (Nat.lt_succ_self _) _ _ _ _ _ _ _ _ _ _) (by omega)
  · exact below_put10 (Below.setCell (Below.setCell HG4.out (Nat.le_refl _) _) (p := ⟨w.heap.size, 1, none⟩) (Nat.le_refl _) _) (Nat.le_succ _) _ _ _ _ _ _ _ _ _ _

end Go.Proofs.Ytfmfeokjnkbpeaa.Wi
