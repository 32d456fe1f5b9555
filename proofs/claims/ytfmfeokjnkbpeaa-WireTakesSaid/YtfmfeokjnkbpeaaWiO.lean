/- Walk: other sides. -/
import Derived.Test.YtfmfeokjnkbpeaaWiN
namespace Go.Proofs.Ytfmfeokjnkbpeaa.Wi
open Go.RowKit
set_option linter.unusedSimpArgs false

/-- The cells of a vector. -/
abbrev svec (a : Nat → Nat) : Array Value := #[.int .u64 (a 0 : Int), .int .u64 (a 1 : Int), .int .u64 (a 2 : Int), .int .u64 (a 3 : Int), .int .u64 (a 4 : Int), .int .u64 (a 5 : Int), .int .u64 (a 6 : Int), .int .u64 (a 7 : Int)]
theorem svec_at (a : Nat → Nat) {k : Nat} (hk : k < 8) : (svec a)[k]? = some (.int .u64 (a k : Int)) := by
  match k, hk with
  | 0, _ => rfl
  | 1, _ => rfl
  | 2, _ => rfl
  | 3, _ => rfl
  | 4, _ => rfl
  | 5, _ => rfl
  | 6, _ => rfl
  | 7, _ => rfl
/-- The sides, up to k the new ones. -/
def sideTo (s : Nat → Int) (a : Nat → Nat) (k j : Nat) : Int := if j < k then ((a j % 8 : Nat) : Int) else s j
theorem sideTo_zero (s : Nat → Int) (a : Nat → Nat) : sideTo s a 0 = s := funext fun j => by simp [sideTo]
theorem sideTo_succ (s : Nat → Int) (a : Nat → Nat) (k : Nat) : sideTo s a (k + 1) = fun j => if j = k then ((a k % 8 : Nat) : Int) else sideTo s a k j := funext fun j => by
  unfold sideTo
  by_cases h : j = k
  · subst h; simp
  · simp only [h, if_false]
    by_cases h2 : j < k
    · rw [if_pos h2, if_pos (by omega)]
    · rw [if_neg h2, if_neg (by omega)]
theorem NB.side {w : World} {b : Nat} {v : Value} {nx : Int} {s : Nat → Int} (h : NB w b v nx s) {k : Nat} (hk : k < 8) (x : Int) : NB (w.setCell ⟨b, 2 + k, none⟩ (.int .i64 x)) b v nx (fun j => if j = k then x else s j) := by
  obtain ⟨a0, a1, a2, a3, a4, a5, a6, a7, a8, a9⟩ := h
  match k, hk with
  | 0, _ => exact ⟨setFar _ _ _ _ _ a0 (by decide), setFar _ _ _ _ _ a1 (by decide), setAt _ _ _ _ a2, setFar _ _ _ _ _ a3 (by decide), setFar _ _ _ _ _ a4 (by decide), setFar _ _ _ _ _ a5 (by decide), setFar _ _ _ _ _ a6 (by decide), setFar _ _ _ _ _ a7 (by decide), setFar _ _ _ _ _ a8 (by decide), setFar _ _ _ _ _ a9 (by decide)⟩
  | 1, _ => exact ⟨setFar _ _ _ _ _ a0 (by decide), setFar _ _ _ _ _ a1 (by decide), setFar _ _ _ _ _ a2 (by decide), setAt _ _ _ _ a3, setFar _ _ _ _ _ a4 (by decide), setFar _ _ _ _ _ a5 (by decide), setFar _ _ _ _ _ a6 (by decide), setFar _ _ _ _ _ a7 (by decide), setFar _ _ _ _ _ a8 (by decide), setFar _ _ _ _ _ a9 (by decide)⟩
  | 2, _ => exact ⟨setFar _ _ _ _ _ a0 (by decide), setFar _ _ _ _ _ a1 (by decide), setFar _ _ _ _ _ a2 (by decide), setFar _ _ _ _ _ a3 (by decide), setAt _ _ _ _ a4, setFar _ _ _ _ _ a5 (by decide), setFar _ _ _ _ _ a6 (by decide), setFar _ _ _ _ _ a7 (by decide), setFar _ _ _ _ _ a8 (by decide), setFar _ _ _ _ _ a9 (by decide)⟩
  | 3, _ => exact ⟨setFar _ _ _ _ _ a0 (by decide), setFar _ _ _ _ _ a1 (by decide), setFar _ _ _ _ _ a2 (by decide), setFar _ _ _ _ _ a3 (by decide), setFar _ _ _ _ _ a4 (by decide), setAt _ _ _ _ a5, setFar _ _ _ _ _ a6 (by decide), setFar _ _ _ _ _ a7 (by decide), setFar _ _ _ _ _ a8 (by decide), setFar _ _ _ _ _ a9 (by decide)⟩
  | 4, _ => exact ⟨setFar _ _ _ _ _ a0 (by decide), setFar _ _ _ _ _ a1 (by decide), setFar _ _ _ _ _ a2 (by decide), setFar _ _ _ _ _ a3 (by decide), setFar _ _ _ _ _ a4 (by decide), setFar _ _ _ _ _ a5 (by decide), setAt _ _ _ _ a6, setFar _ _ _ _ _ a7 (by decide), setFar _ _ _ _ _ a8 (by decide), setFar _ _ _ _ _ a9 (by decide)⟩
  | 5, _ => exact ⟨setFar _ _ _ _ _ a0 (by decide), setFar _ _ _ _ _ a1 (by decide), setFar _ _ _ _ _ a2 (by decide), setFar _ _ _ _ _ a3 (by decide), setFar _ _ _ _ _ a4 (by decide), setFar _ _ _ _ _ a5 (by decide), setFar _ _ _ _ _ a6 (by decide), setAt _ _ _ _ a7, setFar _ _ _ _ _ a8 (by decide), setFar _ _ _ _ _ a9 (by decide)⟩
  | 6, _ => exact ⟨setFar _ _ _ _ _ a0 (by decide), setFar _ _ _ _ _ a1 (by decide), setFar _ _ _ _ _ a2 (by decide), setFar _ _ _ _ _ a3 (by decide), setFar _ _ _ _ _ a4 (by decide), setFar _ _ _ _ _ a5 (by decide), setFar _ _ _ _ _ a6 (by decide), setFar _ _ _ _ _ a7 (by decide), setAt _ _ _ _ a8, setFar _ _ _ _ _ a9 (by decide)⟩
  | 7, _ => exact ⟨setFar _ _ _ _ _ a0 (by decide), setFar _ _ _ _ _ a1 (by decide), setFar _ _ _ _ _ a2 (by decide), setFar _ _ _ _ _ a3 (by decide), setFar _ _ _ _ _ a4 (by decide), setFar _ _ _ _ _ a5 (by decide), setFar _ _ _ _ _ a6 (by decide), setFar _ _ _ _ _ a7 (by decide), setFar _ _ _ _ _ a8 (by decide), setAt _ _ _ _ a9⟩
theorem NF.set {w : World} {b : Nat} (h : NF w b) (p : Addr) (u : Value) : NF (w.setCell p u) b := by
  obtain ⟨x, x0, x1, x2, x3, x4, x5, x6, x7, x8, x9⟩ := h
  refine ⟨by simpa [World.setCell] using x, ?_, ?_, ?_, ?_, ?_, ?_, ?_, ?_, ?_, ?_⟩ <;> rw [World.frozen?_setCell] <;> assumption
theorem NB.cellAt {w : World} {b : Nat} {v : Value} {nx : Int} {s : Nat → Int} (h : NB w b v nx s) {k : Nat} (hk : k < 8) : w.cell? ⟨b, 2 + k, none⟩ = some (.int .i64 (s k)) := by
  obtain ⟨a0, a1, a2, a3, a4, a5, a6, a7, a8, a9⟩ := h
  match k, hk with
  | 0, _ => exact a2
  | 1, _ => exact a3
  | 2, _ => exact a4
  | 3, _ => exact a5
  | 4, _ => exact a6
  | 5, _ => exact a7
  | 6, _ => exact a8
  | 7, _ => exact a9
theorem NF.at_ {w : World} {b : Nat} (h : NF w b) {k : Nat} (hk : k < 8) : w.frozen? ⟨b, 2 + k, none⟩ = false := by
  obtain ⟨-, a0, a1, a2, a3, a4, a5, a6, a7, a8, a9⟩ := h
  match k, hk with
  | 0, _ => exact a2
  | 1, _ => exact a3
  | 2, _ => exact a4
  | 3, _ => exact a5
  | 4, _ => exact a6
  | 5, _ => exact a7
  | 6, _ => exact a8
  | 7, _ => exact a9
def PartRel (L : List P) (v : Value) (nx : Int) (s : Nat → Int) (a : Nat → Nat) (w : World) (i : Value) (wr : World) : Prop :=
  ∃ k : Nat, k ≤ 8 ∧ i = .int .i64 k ∧ NB wr w.heap.size v nx (sideTo s a k) ∧ NF wr w.heap.size ∧ NB wr (w.heap.size + 1 + 1) (.slice none 0 0) 0 zs ∧ NF wr (w.heap.size + 1 + 1) ∧ PO wr (w.heap.size + 1 + 1 + 1) v L ∧ Gr w wr
theorem index_s (a : Nat → Nat) {k : Nat} (hk : k < 8) (w : World) : (Instr.index 45 (.agg (svec a)) (.int .i64 (k : Int))).run Try.prog w = .ok (.int .u64 (a k : Int)) w := by
  match k, hk with
  | 0, _ => show _ = _; kernel_rfl
  | 1, _ => show _ = _; kernel_rfl
  | 2, _ => show _ = _; kernel_rfl
  | 3, _ => show _ = _; kernel_rfl
  | 4, _ => show _ = _; kernel_rfl
  | 5, _ => show _ = _; kernel_rfl
  | 6, _ => show _ = _; kernel_rfl
  | 7, _ => show _ = _; kernel_rfl
theorem boxesNVN (v : Value) (nx : Int) (s : Nat → Int) (a : Nat → Nat) (w : World) : ∃ W, W = ((w.alloc (.cells (ncells v nx s) 25)).alloc (.cells (svec a) 45)).alloc (.cells #[.slice none 0 0, .int .i64 0, .int .i64 0, .int .i64 0, .int .i64 0, .int .i64 0, .int .i64 0, .int .i64 0, .int .i64 0, .int .i64 0] 25) ∧
    Gr w W ∧ NB W w.heap.size v nx s ∧ NF W w.heap.size ∧ (∀ k, k < 8 → W.cell? ⟨w.heap.size + 1, k, none⟩ = some (.int .u64 (a k : Int))) ∧ NB W (w.heap.size + 1 + 1) (.slice none 0 0) 0 zs ∧ NF W (w.heap.size + 1 + 1) ∧ W.heap.size = w.heap.size + 1 + 1 + 1 := by
  have hz : ((w.alloc (.cells (ncells v nx s) 25)).alloc (.cells (svec a) 45)).heap.size = w.heap.size + 1 + 1 := by simp
  have h1 := NB.new ((w.alloc (.cells (ncells v nx s) 25)).alloc (.cells (svec a) 45)) (.slice none 0 0) 0 zs
  have h2 := NF.new ((w.alloc (.cells (ncells v nx s) 25)).alloc (.cells (svec a) 45)) (.slice none 0 0) 0 zs
  rw [hz] at h1 h2
  refine ⟨_, rfl, ((gr_box w _).alloc _).alloc _, (NB.new w v nx s).gr ((gr_box _ _).alloc _), (NF.new w v nx s).gr ((gr_box _ _).alloc _), fun k hk => ?_, h1, h2, by simp⟩
  refine (gr_box _ _).cell ?_
  rw [World.cell?_alloc_at _ _ _ _ (by simp)]
  exact svec_at a hk

set_option maxRecDepth 100000 in
set_option maxHeartbeats 4000000 in
theorem part_any (v : Value) (L : List P) (nx : Int) (s : Nat → Int) (a : Nat → Nat) (ha : ∀ k, k < 8 → a k < 18446744073709551616) (w : World) (hv : PV w v L) (hf : Fit L) (hlen : L.length * 40 ≤ 140737488355328) :
    Calls Try.prog 17 #[.agg (ncells v nx s), .agg (svec a)] w fun e w' => RetNet L nx (sideTo s a 8) w e w' := by
  obtain ⟨A, c, hva, hc1, ⟨hc2, -⟩, -⟩ := id hv
  obtain ⟨n, hn⟩ : ∃ n, n = L.length := ⟨_, rfl⟩
  have HN := Lib.hid hn
  rw [← hn] at hva
  subst hva
  obtain ⟨W, hW, hG, hB0, hF0, hSV, hB1, hF1, hz⟩ := boxesNVN (.slice A n c) nx s a w
  have HC := Lib.hid (copy_any (.slice A n c) L nx s W (hv.gr hG) hf hlen)
  have HA := Lib.hid ha
  have HB0 := Lib.hid hB0
  have HF0 := Lib.hid hF0
  have HB1 := Lib.hid hB1
  have HF1 := Lib.hid hF1
  have HSV := Lib.hid hSV
  have HG := Lib.hid hG
  have HZ := Lib.hid hz
  obtain ⟨a0, a1, a2, a3, a4, a5, a6, a7, a8, a9⟩ := hB0
  clear hF0 hB1 hF1 hSV hG hz hv hn ha
  go_enter Try.func17, Try.ntmps17
  go_upto_region 1 with (fail)
  rw [← hW]
  clear hW
  go_wp2_with fail
  clear a0 a1 a2 a3 a4 a5 a6 a7 a8 a9
  refine HC.out.mono ?_
  rintro e w1 ⟨v1, rfl, hown, g1⟩
  obtain ⟨A1, c1, hv1, -, -⟩ := hown.form
  rw [← HN.out] at hv1
  subst hv1
  obtain ⟨a0, a1, a2, a3, a4, a5, a6, a7, a8, a9⟩ := HB0.out.gr g1
  obtain ⟨-, x0, x1, x2, x3, x4, x5, x6, x7, x8, x9⟩ := HF0.out.gr g1
  obtain ⟨w2, hw2⟩ : ∃ w2, w2 = put10 w1 w.heap.size (.slice A1 n c1) (.int .i64 nx) (.int .i64 (s 0)) (.int .i64 (s 1)) (.int .i64 (s 2)) (.int .i64 (s 3)) (.int .i64 (s 4)) (.int .i64 (s 5)) (.int .i64 (s 6)) (.int .i64 (s 7)) := ⟨_, rfl⟩
  have HST : Hid (PartRel L (.slice A1 n c1) nx s a w (.int .i64 0) w2) := by
    have h1 := NB.put (HB0.out.gr g1) (.slice A1 n c1) nx s
    have h2 := (HF0.out.gr g1).put10 (b := w.heap.size) (.slice A1 n c1) (.int .i64 nx) (.int .i64 (s 0)) (.int .i64 (s 1)) (.int .i64 (s 2)) (.int .i64 (s 3)) (.int .i64 (s 4)) (.int .i64 (s 5)) (.int .i64 (s 6)) (.int .i64 (s 7))
    have h3 := (HB1.out.gr g1).far10 (b := w.heap.size) (by omega) (.slice A1 n c1) (.int .i64 nx) (.int .i64 (s 0)) (.int .i64 (s 1)) (.int .i64 (s 2)) (.int .i64 (s 3)) (.int .i64 (s 4)) (.int .i64 (s 5)) (.int .i64 (s 6)) (.int .i64 (s 7))
    have h4 := (HF1.out.gr g1).put10 (b := w.heap.size) (.slice A1 n c1) (.int .i64 nx) (.int .i64 (s 0)) (.int .i64 (s 1)) (.int .i64 (s 2)) (.int .i64 (s 3)) (.int .i64 (s 4)) (.int .i64 (s 5)) (.int .i64 (s 6)) (.int .i64 (s 7))
    have h5 := own_put10 (b := w.heap.size) (own_le hown (B' := w.heap.size + 1 + 1 + 1) (by rw [HZ.out]; exact Nat.le_refl _)) (by omega) (.slice A1 n c1) (.int .i64 nx) (.int .i64 (s 0)) (.int .i64 (s 1)) (.int .i64 (s 2)) (.int .i64 (s 3)) (.int .i64 (s 4)) (.int .i64 (s 5)) (.int .i64 (s 6)) (.int .i64 (s 7))
    have h6 := below_put10 (HG.out.trans g1) (Nat.le_refl w.heap.size) (.slice A1 n c1) (.int .i64 nx) (.int .i64 (s 0)) (.int .i64 (s 1)) (.int .i64 (s 2)) (.int .i64 (s 3)) (.int .i64 (s 4)) (.int .i64 (s 5)) (.int .i64 (s 6)) (.int .i64 (s 7))
    rw [← hw2] at h1 h2 h3 h4 h5 h6
    exact Lib.hid ⟨0, by decide, rfl, by rw [sideTo_zero]; exact h1, h2, h3, h4, h5, h6⟩
  obtain ⟨d0, d1, d2, d3, d4, d5, d6, d7⟩ : w1.cell? ⟨w.heap.size + 1, 0, none⟩ = some (.int .u64 (a 0 : Int)) ∧ w1.cell? ⟨w.heap.size + 1, 1, none⟩ = some (.int .u64 (a 1 : Int)) ∧ w1.cell? ⟨w.heap.size + 1, 2, none⟩ = some (.int .u64 (a 2 : Int)) ∧ w1.cell? ⟨w.heap.size + 1, 3, none⟩ = some (.int .u64 (a 3 : Int)) ∧ w1.cell? ⟨w.heap.size + 1, 4, none⟩ = some (.int .u64 (a 4 : Int)) ∧ w1.cell? ⟨w.heap.size + 1, 5, none⟩ = some (.int .u64 (a 5 : Int)) ∧ w1.cell? ⟨w.heap.size + 1, 6, none⟩ = some (.int .u64 (a 6 : Int)) ∧ w1.cell? ⟨w.heap.size + 1, 7, none⟩ = some (.int .u64 (a 7 : Int)) :=
    ⟨g1.cell (HSV.out 0 (by decide)), g1.cell (HSV.out 1 (by decide)), g1.cell (HSV.out 2 (by decide)), g1.cell (HSV.out 3 (by decide)), g1.cell (HSV.out 4 (by decide)), g1.cell (HSV.out 5 (by decide)), g1.cell (HSV.out 6 (by decide)), g1.cell (HSV.out 7 (by decide))⟩
  have HW2 := Lib.hid hw2
  clear hown g1 hw2
  go_wp2_with fail
  have hw2 := HW2.out
  unfold put10 at hw2
  rw [← hw2]
  clear hw2 HW2 a0 a1 a2 a3 a4 a5 a6 a7 a8 a9 x0 x1 x2 x3 x4 x5 x6 x7 x8 x9 d0 d1 d2 d3 d4 d5 d6 d7
  go_loopw [10] (fun i wr => PartRel L (.slice A1 n c1) nx s a w i wr) (fun i _ => 8 - (intOf i).toNat)
  case atStart => exact HST.out
  case round =>
    obtain ⟨k, hk, rfl, hB, hF, hR, hRF, hown, hgr⟩ := hrel
    have HO := Lib.hid hown
    have HG := Lib.hid hgr
    have HB := Lib.hid hB
    have HF := Lib.hid hF
    have HR := Lib.hid hR
    have HRF := Lib.hid hRF
    clear hown hgr hB hF hR hRF HST
    by_cases hlt : k < 8
    · have hix := fun w => index_s a hlt w
      have cS := HB.out.cellAt hlt
      have fS := HF.out.at_ hlt
      have hk0 : (0 : Int) ≤ (k : Int) := Int.natCast_nonneg _
      have hk8 : (k : Int) < 8 := by omega
      have hak := HA.out k hlt
      have hx : ((a k : Int) % 8) = ((a k % 8 : Nat) : Int) := by omega
      have HX := Lib.hid hx
      clear hx
      go_wp2_with fail
      rw [HX.out]
      refine ⟨⟨k + 1, by omega, by go_num, by rw [sideTo_succ]; exact HB.out.side hlt _, HF.out.set _ _, HR.out.set (by omega) _ _, HRF.out.set _ _, ownsRow_setCell_below HO.out (a := ⟨w.heap.size, 2 + k, none⟩) (show w.heap.size < w.heap.size + 1 + 1 + 1 by omega) _, Below.setCell HG.out (Nat.le_refl _) _⟩, by simp [intOf]; omega⟩
    · obtain rfl : k = 8 := by omega
      obtain ⟨a0, a1, a2, a3, a4, a5, a6, a7, a8, a9⟩ := HB.out
      obtain ⟨b0, b1, b2, b3, b4, b5, b6, b7, b8, b9⟩ := HR.out
      obtain ⟨-, y0, y1, y2, y3, y4, y5, y6, y7, y8, y9⟩ := HRF.out
      go_wp2
      refine bodyPost_ret (v := .agg (ncells (.slice A1 n c1) nx (sideTo s a 8))) (by simp [results, Try.results17, go_sem, b0, b1, b2, b3, b4, b5, b6, b7, b8, b9]) rfl ⟨_, rfl, ?_, ?_⟩
      · exact own_le (own_put10 HO.out (by omega) _ _ _ _ _ _ _ _ _ _) (by omega)
      · exact below_put10 HG.out (by omega) _ _ _ _ _ _ _ _ _ _
end Go.Proofs.Ytfmfeokjnkbpeaa.Wi
