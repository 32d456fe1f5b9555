/- Nets in memory; walks: a net's copy, a net without a packet. -/
import Derived.Test.YtfmfeokjnkbpeaaWiD
namespace Go.Proofs.Ytfmfeokjnkbpeaa.Wi
open Go.RowKit

/-- The net lies in block b. -/
abbrev NB (w : World) (b : Nat) (v : Value) (nx : Int) (s : Nat → Int) : Prop :=
  w.cell? ⟨b, 0, none⟩ = some v ∧ w.cell? ⟨b, 1, none⟩ = some (.int .i64 nx) ∧ w.cell? ⟨b, 2, none⟩ = some (.int .i64 (s 0)) ∧ w.cell? ⟨b, 3, none⟩ = some (.int .i64 (s 1)) ∧ w.cell? ⟨b, 4, none⟩ = some (.int .i64 (s 2)) ∧
  w.cell? ⟨b, 5, none⟩ = some (.int .i64 (s 3)) ∧ w.cell? ⟨b, 6, none⟩ = some (.int .i64 (s 4)) ∧ w.cell? ⟨b, 7, none⟩ = some (.int .i64 (s 5)) ∧ w.cell? ⟨b, 8, none⟩ = some (.int .i64 (s 6)) ∧ w.cell? ⟨b, 9, none⟩ = some (.int .i64 (s 7))
theorem NB.gr {w w' : World} {b : Nat} {v : Value} {nx : Int} {s : Nat → Int} (h : NB w b v nx s) (g : Gr w w') : NB w' b v nx s := by
  obtain ⟨h0, h1, h2, h3, h4, h5, h6, h7, h8, h9⟩ := h
  exact ⟨g.cell h0, g.cell h1, g.cell h2, g.cell h3, g.cell h4, g.cell h5, g.cell h6, g.cell h7, g.cell h8, g.cell h9⟩
theorem NB.new (w : World) (v : Value) (nx : Int) (s : Nat → Int) : NB (w.alloc (.cells (ncells v nx s) 25)) w.heap.size v nx s := by
  refine ⟨?_, ?_, ?_, ?_, ?_, ?_, ?_, ?_, ?_, ?_⟩ <;> simp
abbrev NF (w : World) (b : Nat) : Prop :=
  b < w.heap.size ∧ w.frozen? ⟨b, 0, none⟩ = false ∧ w.frozen? ⟨b, 1, none⟩ = false ∧ w.frozen? ⟨b, 2, none⟩ = false ∧ w.frozen? ⟨b, 3, none⟩ = false ∧ w.frozen? ⟨b, 4, none⟩ = false ∧
  w.frozen? ⟨b, 5, none⟩ = false ∧ w.frozen? ⟨b, 6, none⟩ = false ∧ w.frozen? ⟨b, 7, none⟩ = false ∧ w.frozen? ⟨b, 8, none⟩ = false ∧ w.frozen? ⟨b, 9, none⟩ = false
theorem NF.gr {w w' : World} {b : Nat} (h : NF w b) (g : Gr w w') : NF w' b := by
  obtain ⟨hb, h0, h1, h2, h3, h4, h5, h6, h7, h8, h9⟩ := h
  exact ⟨Nat.lt_of_lt_of_le hb g.size, g.frozen hb h0, g.frozen hb h1, g.frozen hb h2, g.frozen hb h3, g.frozen hb h4, g.frozen hb h5, g.frozen hb h6, g.frozen hb h7, g.frozen hb h8, g.frozen hb h9⟩
theorem NF.new (w : World) (v : Value) (nx : Int) (s : Nat → Int) : NF (w.alloc (.cells (ncells v nx s) 25)) w.heap.size := by
  refine ⟨by simp, ?_, ?_, ?_, ?_, ?_, ?_, ?_, ?_, ?_, ?_⟩ <;> simp
/-- Ten cells of a block, written. -/
abbrev put10 (w : World) (b : Nat) (c0 c1 c2 c3 c4 c5 c6 c7 c8 c9 : Value) : World :=
  (((((((((w.setCell ⟨b, 0, none⟩ c0).setCell ⟨b, 1, none⟩ c1).setCell ⟨b, 2, none⟩ c2).setCell ⟨b, 3, none⟩ c3).setCell ⟨b, 4, none⟩ c4).setCell ⟨b, 5, none⟩ c5).setCell ⟨b, 6, none⟩ c6).setCell ⟨b, 7, none⟩ c7).setCell ⟨b, 8, none⟩ c8).setCell ⟨b, 9, none⟩ c9
theorem own_put10 {w : World} {B b : Nat} {t : TypeId} {size n : Nat} {v : Value} {xs : List Value} (h : w.ownsRow B t size v n xs) (hb : b < B) (c0 c1 c2 c3 c4 c5 c6 c7 c8 c9 : Value) : (put10 w b c0 c1 c2 c3 c4 c5 c6 c7 c8 c9).ownsRow B t size v n xs := by
  unfold put10
  iterate 10 refine ownsRow_setCell_below ?_ (by exact hb) _
  exact h
theorem below_put10 {w w' : World} {B b : Nat} (h : Below B w w') (hb : B ≤ b) (c0 c1 c2 c3 c4 c5 c6 c7 c8 c9 : Value) : Below B w (put10 w' b c0 c1 c2 c3 c4 c5 c6 c7 c8 c9) := by
  unfold put10
  iterate 10 refine Below.setCell ?_ (by exact hb) _
  exact h
/-- A call's answer: a net whose bag is new memory. -/
def RetNet (L : List P) (nx : Int) (s : Nat → Int) (w : World) (e : Ending) (w' : World) : Prop := ∃ v, e = .returned (.agg (ncells v nx s)) ∧ PO w' w.heap.size v L ∧ Gr w w'
/-- The boxes of a net and of a net that is to be answered. -/
theorem boxesNN (v : Value) (nx : Int) (s : Nat → Int) (w : World) : ∃ W, W = (w.alloc (.cells (ncells v nx s) 25)).alloc (.cells #[.slice none 0 0, .int .i64 0, .int .i64 0, .int .i64 0, .int .i64 0, .int .i64 0, .int .i64 0, .int .i64 0, .int .i64 0, .int .i64 0] 25) ∧
    Gr w W ∧ NB W w.heap.size v nx s ∧ NF W w.heap.size ∧ NB W (w.heap.size + 1) (.slice none 0 0) 0 (fun _ => 0) ∧ NF W (w.heap.size + 1) ∧ W.heap.size = w.heap.size + 1 + 1 := by
  refine ⟨_, rfl, (gr_box w _).alloc _, (NB.new w v nx s).gr (gr_box _ _), (NF.new w v nx s).gr (gr_box _ _), ?_, ?_, by simp⟩
  · have := NB.new (w.alloc (.cells (ncells v nx s) 25)) (.slice none 0 0) 0 (fun _ => 0)
    rw [show (w.alloc (.cells (ncells v nx s) 25)).heap.size = w.heap.size + 1 by simp] at this
    exact this
  · have := NF.new (w.alloc (.cells (ncells v nx s) 25)) (.slice none 0 0) 0 (fun _ => 0)
    rw [show (w.alloc (.cells (ncells v nx s) 25)).heap.size = w.heap.size + 1 by simp] at this
    exact this
/-- One slice of packets, two slices of packets, laid. -/
theorem parts1 (u : Value) (L : List P) (W : World) (h : PV W u L) : SP (W.alloc (.cells #[u] 22)) (.slice (some ⟨W.heap.size, 0, none⟩) 1 1) [L] := by
  refine ⟨_, 1, rfl, by decide, Nat.le_refl _, fun j hj => ⟨W.heap.size, 0, u, rfl, ?_, ?_⟩⟩
  · obtain rfl : j = 0 := by simpa using hj
    simp
  · obtain rfl : j = 0 := by simpa using hj
    exact h.gr (gr_box _ _)
theorem parts2 (u u' : Value) (L L' : List P) (W : World) (h : PV W u L) (h' : PV W u' L') : SP (W.alloc (.cells #[u, u'] 22)) (.slice (some ⟨W.heap.size, 0, none⟩) 2 2) [L, L'] := by
  refine ⟨_, 2, rfl, by decide, Nat.le_refl _, fun j hj => ?_⟩
  have hj2 : j < 2 := hj
  match j, hj2 with
  | 0, _ => exact ⟨W.heap.size, 0, u, rfl, by simp, h.gr (gr_box _ _)⟩
  | 1, _ => exact ⟨W.heap.size, 0, u', rfl, by simp, h'.gr (gr_box _ _)⟩

set_option maxRecDepth 100000 in
set_option maxHeartbeats 4000000 in
theorem copy_any (v : Value) (L : List P) (nx : Int) (s : Nat → Int) (w : World) (hv : PV w v L) (hf : Fit L) (hlen : L.length * 40 ≤ 140737488355328) :
    Calls Try.prog 26 #[.agg (ncells v nx s)] w fun e w' => RetNet L nx s w e w' := by
  obtain ⟨A, c, hva, _⟩ := id hv
  obtain ⟨n, hn⟩ : ∃ n, n = L.length := ⟨_, rfl⟩
  have HN := Lib.hid hn
  rw [← hn] at hva
  subst hva
  clear hn
  obtain ⟨W, hW, hG, hB0, hF0, hB1, hF1, hz⟩ := boxesNN (.slice A n c) nx s w
  obtain ⟨W3, hW3, hG3, hSP⟩ : ∃ W3, W3 = W.alloc (.cells #[.slice A n c] 22) ∧ Gr W W3 ∧ SP W3 (.slice (some ⟨w.heap.size + 1 + 1, 0, none⟩) 1 1) [L] := by
    rw [← hz]
    exact ⟨_, rfl, gr_box _ _, parts1 _ L W (hv.gr hG)⟩
  have HC := Lib.hid (bagOf_any _ [L] W3 hSP (fun l hl => by rw [List.mem_singleton.1 hl]; exact hf) (by rw [List.flatten_singleton]; exact hlen))
  rw [List.flatten_singleton] at HC
  have HB0 := Lib.hid (hB0.gr hG3)
  have HF0 := Lib.hid (hF0.gr hG3)
  have HB1 := Lib.hid (hB1.gr hG3)
  have HF1 := Lib.hid (hF1.gr hG3)
  have HG3 := Lib.hid (hG.trans hG3)
  have hz3 : w.heap.size + 1 < W3.heap.size := (hF1.gr hG3).1
  clear hB0 hF0 hB1 hF1 hSP hG hv hz hG3
  go_enter Try.func26, Try.ntmps26
  go_wp2_with fail
  rw [← hW, ← hW3]
  clear hW hW3
  refine HC.out.mono ?_
  rintro e w4 ⟨v4, rfl, hown, g4⟩
  obtain ⟨A4, c4, hv4, -, -⟩ := hown.form
  rw [← HN.out] at hv4
  subst hv4
  obtain ⟨a0, a1, a2, a3, a4, a5, a6, a7, a8, a9⟩ := HB0.out.gr g4
  obtain ⟨-, x0, x1, x2, x3, x4, x5, x6, x7, x8, x9⟩ := HF0.out.gr g4
  obtain ⟨b0, b1, b2, b3, b4, b5, b6, b7, b8, b9⟩ := HB1.out.gr g4
  obtain ⟨-, y0, y1, y2, y3, y4, y5, y6, y7, y8, y9⟩ := HF1.out.gr g4
  have HO := Lib.hid hown
  have HG4 := Lib.hid (HG3.out.trans g4)
  clear hown g4
  go_wp2
  refine bodyPost_ret (v := .agg (ncells (.slice A4 n c4) nx s)) (by simp [results, Try.results26, go_sem, b0, b1, b2, b3, b4, b5, b6, b7, b8, b9]) rfl ⟨_, rfl, ?_, ?_⟩
  · exact own_le (own_put10 (ownsRow_setCell_below HO.out (a := ⟨w.heap.size, 0, none⟩) (show w.heap.size < W3.heap.size by omega) _) hz3 _ _ _ _ _ _ _ _ _ _) (by omega)
  · exact below_put10 (Below.setCell HG4.out (Nat.le_refl _) _) (Nat.le_succ _) _ _ _ _ _ _ _ _ _ _
end Go.Proofs.Ytfmfeokjnkbpeaa.Wi
