/- Walk: a net with a mark behind its packets. -/
import Derived.Test.YtfmfeokjnkbpeaaWiP
namespace Go.Proofs.Ytfmfeokjnkbpeaa.Wi
open Go.RowKit
set_option linter.unusedSimpArgs false

def markP : P := ⟨-7, 0, 0, ⟨#[]⟩⟩
/-- A bag with a marked place behind its packets. -/
def MO (w : World) (B : Nat) (v : Value) (L : List P) : Prop :=
  ∃ g c, v = .slice (some ⟨g, 0, none⟩) L.length c ∧ w.ownsRow B 31 4 (.slice (some ⟨g, 0, none⟩) (L.length + 1) c) (L.length + 1) (prows (L ++ [markP]))
theorem MO.gr {w w' : World} {B : Nat} {v : Value} {L : List P} (h : MO w B v L) (g : Gr w w') : MO w' B v L := by
  obtain ⟨b, c, hv, hr⟩ := h
  exact ⟨b, c, hv, own_gr hr g⟩
theorem MO.po {w : World} {B : Nat} {v : Value} {L : List P} (h : MO w B v L) : PO w B v L := by
  obtain ⟨b, c, rfl, hr⟩ := h
  have := own_prefix hr (k := L.length) (by omega)
  have e : (prows (L ++ [markP])).take (L.length * 4) = prows L := by
    unfold prows
    rw [rows_take prow 4 prow_len, List.take_left' rfl]
  rw [e] at this
  exact this
theorem MO.mark {w : World} {B : Nat} {g c : Nat} {L : List P} {n : Nat} (h : MO w B (.slice (some ⟨g, 0, none⟩) n c) L) : w.cell? ⟨g, L.length * 4, none⟩ = some (.int .i64 (-7)) ∧ L.length + 1 ≤ c ∧ c ≤ 9223372036854775807 := by
  obtain ⟨b, c', hv, hr⟩ := h
  injection hv with e1 e2 e3
  injection e1 with e1
  injection e1 with e1
  subst e1 e3
  obtain ⟨h1, h2, _⟩ := own_len hr
  refine ⟨?_, h1, h2⟩
  rw [hr.cellAt (L.length * 4) (by omega)]
  have := rows_at prow 4 prow_len (L ++ [markP]) L.length 0 (by rw [List.length_append]; exact Nat.lt_succ_self _) (by decide)
  rw [Nat.add_zero, List.getElem_append_right (Nat.le_refl _)] at this
  rw [show prows (L ++ [markP]) = (L ++ [markP]).flatMap prow from rfl, this]
  simp [prow, markP]
def RetRoomy (L : List P) (nx : Int) (s : Nat → Int) (w : World) (e : Ending) (w' : World) : Prop := ∃ v, e = .returned (.agg (ncells v nx s)) ∧ MO w' w.heap.size v L ∧ Gr w w'
theorem SL.kp {w w' : World} {r : Option Nat} {size : Nat} {v : Value} {n : Nat} {cs : List Value} (h : SL w size v n cs) (g : Kp r w w') (hv : ∀ b off, (∃ n c, v = .slice (some ⟨b, off, none⟩) n c) → some b ≠ r) : SL w' size v n cs := by
  obtain ⟨A, c, hvv, h1, h2, h3, h4⟩ := h
  refine ⟨A, c, hvv, h1, h2, h3, fun j u hj => ?_⟩
  obtain ⟨b, off, ha, hc⟩ := h4 j u hj
  subst ha
  exact ⟨b, off, rfl, g.cell hc (hv b off ⟨_, _, hvv⟩)⟩
theorem NB.below {w w' : World} {B b : Nat} {v : Value} {nx : Int} {s : Nat → Int} (h : NB w b v nx s) (g : Below B w w') (hb : b < B) : NB w' b v nx s := by
  obtain ⟨h0, h1, h2, h3, h4, h5, h6, h7, h8, h9⟩ := h
  have k : ∀ i u, w.cell? ⟨b, i, none⟩ = some u → w'.cell? ⟨b, i, none⟩ = some u := fun i u h => by rw [g.cell (p := ⟨b, i, none⟩) hb]; exact h
  exact ⟨k _ _ h0, k _ _ h1, k _ _ h2, k _ _ h3, k _ _ h4, k _ _ h5, k _ _ h6, k _ _ h7, k _ _ h8, k _ _ h9⟩
theorem NF.below {w w' : World} {B b : Nat} (h : NF w b) (g : Below B w w') (hb : b < B) : NF w' b := by
  obtain ⟨x, h0, h1, h2, h3, h4, h5, h6, h7, h8, h9⟩ := h
  have k : ∀ i, w.frozen? ⟨b, i, none⟩ = false → w'.frozen? ⟨b, i, none⟩ = false := fun i h => by rw [g.frozen (p := ⟨b, i, none⟩) hb]; exact h
  exact ⟨Nat.lt_of_lt_of_le x g.size, k _ h0, k _ h1, k _ h2, k _ h3, k _ h4, k _ h5, k _ h6, k _ h7, k _ h8, k _ h9⟩
theorem bCell {W X : World} {B b i : Nat} {u : Value} (g : Below B W X) (h : W.cell? ⟨b, i, none⟩ = some u) (hb : b < B) : X.cell? ⟨b, i, none⟩ = some u := by
  rw [g.cell (p := ⟨b, i, none⟩) hb]; exact h
theorem boxesNNN (v : Value) (nx : Int) (s : Nat → Int) (w : World) : ∃ W, W = ((w.alloc (.cells (ncells v nx s) 25)).alloc (.cells #[.slice none 0 0, .int .i64 0, .int .i64 0, .int .i64 0, .int .i64 0, .int .i64 0, .int .i64 0, .int .i64 0, .int .i64 0, .int .i64 0] 25)).alloc (.cells (ncells v nx s) 25) ∧
    Gr w W ∧ NB W w.heap.size v nx s ∧ NB W (w.heap.size + 1) (.slice none 0 0) 0 zs ∧ NF W (w.heap.size + 1) ∧ NB W (w.heap.size + 1 + 1) v nx s ∧ NF W (w.heap.size + 1 + 1) ∧ W.heap.size = w.heap.size + 1 + 1 + 1 := by
  obtain ⟨W2, rfl, g, b0, f0, b1, f1, hz⟩ := boxesNN v nx s w
  have h1 := NB.new ((w.alloc (.cells (ncells v nx s) 25)).alloc (.cells #[.slice none 0 0, .int .i64 0, .int .i64 0, .int .i64 0, .int .i64 0, .int .i64 0, .int .i64 0, .int .i64 0, .int .i64 0, .int .i64 0] 25)) v nx s
  have h2 := NF.new ((w.alloc (.cells (ncells v nx s) 25)).alloc (.cells #[.slice none 0 0, .int .i64 0, .int .i64 0, .int .i64 0, .int .i64 0, .int .i64 0, .int .i64 0, .int .i64 0, .int .i64 0, .int .i64 0] 25)) v nx s
  rw [hz] at h1 h2
  exact ⟨_, rfl, g.alloc _, b0.gr (gr_box _ _), b1.gr (gr_box _ _), f1.gr (gr_box _ _), h1, h2, by simp⟩

set_option maxRecDepth 100000 in
set_option maxHeartbeats 4000000 in
theorem roomy_any (v : Value) (L : List P) (nx : Int) (s : Nat → Int) (w : World) (hv : PV w v L) (hlen : (L.length + 1) * 40 ≤ 140737488355328) :
    Calls Try.prog 9 #[.agg (ncells v nx s)] w fun e w' => RetRoomy L nx s w e w' := by
  obtain ⟨A, c, hva, hc1, ⟨hc2, -⟩, -⟩ := id hv
  obtain ⟨i0, hi, hz0, hz1, hz2⟩ := info_parts infoPacket
  obtain ⟨n, hn⟩ : ∃ n, n = L.length := ⟨_, rfl⟩
  have HN := Lib.hid hn
  have hsl := hv.sl
  rw [← hn] at hsl hva hlen
  subst hva
  obtain ⟨W, hW, hG, hB0, hB1, hF1, hB2, hF2, hz⟩ := boxesNNN (.slice A n c) nx s w
  have HSL0 := Lib.hid hsl
  have HB0 := Lib.hid hB0
  have HB1 := Lib.hid hB1
  have HF1 := Lib.hid hF1
  have HB2 := Lib.hid hB2
  have HF2 := Lib.hid hF2
  have HG := Lib.hid hG
  have HZ := Lib.hid hz
  have HW := Lib.hid hW
  clear hB0 hB1 hF1 hB2 hF2 hG hz hv hn hsl hW
  go_enter Try.func9, Try.ntmps9
  go_upto_region 2 with (fail)
  rw [← HW.out]
  obtain ⟨W0, hW0⟩ : ∃ W0, W0 = W.drew := ⟨_, rfl⟩
  have HC0 : Hid (W.cell? ⟨w.heap.size, 0, none⟩ = some (.slice A n c)) := Lib.hid HB0.out.1
  have HB0x : Hid (Below (w.heap.size + 1 + 1 + 1) W W0) := Lib.hid (by rw [hW0]; exact Below.mono (Gr.refl W).drew (by rw [HZ.out]; exact Nat.le_refl _))
  have HB0xs : Hid (W.heap.size ≤ W0.heap.size) := Lib.hid (by rw [hW0]; exact (Gr.refl W).drew.size)
  have HZ0 : Hid (w.heap.size + 1 + 1 + 1 ≤ W.heap.size) := Lib.hid (by rw [HZ.out]; exact Nat.le_refl _)
  have HSLb : ∀ X, Below (w.heap.size + 1 + 1 + 1) W X → SL X 4 (.slice A n c) n (prows L) := fun X hX => HSL0.out.gr (Below.trans HG.out (Below.mono hX (by omega)))
  have HSLb := Lib.hid HSLb
  have HONE := Lib.hid (prows_one L)
  have HM1 : Hid (∀ u ∈ [Value.int .i64 (-7), .int .i64 0, .int .i64 0, .string ⟨#[]⟩], u.oneCell' = true) := Lib.hid (one_row markP)
  have HCC : Hid (0 + n ≤ maxLen ∧ (0 + n) * 40 ≤ 140737488355328 ∧ n + 1 ≤ maxLen ∧ (n + 1) * 40 ≤ 140737488355328) := Lib.hid ⟨by unfold maxLen; omega, by omega, by unfold maxLen; omega, hlen⟩
  refine wp_region_noPanic ?_
  refine wp_region_held_drew (S := fun w' => w'.cell? ⟨w.heap.size, 0, none⟩ = some (.slice A n c)) (by kernel_rfl) ((Gr.refl W).drew.cell HC0.out) (fun hHeld => ?_)
  rw [← hW0] at hHeld ⊢
  clear hW0
  refine hTake (i := 1) rfl (by kernel_rfl) (by kernel_rfl) (by kernel_rfl) (by kernel_rfl) (by assumption) ?_
  apply Exists.intro
  refine ⟨fun _ _ _ h => h, fun wq hq => ?_, ?_⟩
  · go_light
    try dsimp only at hq
    go_simp
    try with_reducible rfl
    done
  try simp only [Act.put, List.setIfInBounds_toArray, List.set_cons_zero, List.set_cons_succ]
  refine hTake (i := 2) rfl (by kernel_rfl) (by kernel_rfl) (by kernel_rfl) (by kernel_rfl) (by assumption) ?_
  apply Exists.intro
  refine ⟨fun _ _ _ h => h, fun wq hq => ?_, ?_⟩
  · go_light
    try dsimp only at hq
    go_simp
    try with_reducible rfl
    done
  try simp only [Act.put, List.setIfInBounds_toArray, List.set_cons_zero, List.set_cons_succ]
  refine hTake (i := 4) rfl (by kernel_rfl) (by kernel_rfl) (by kernel_rfl) (by kernel_rfl) (by assumption) ?_
  apply Exists.intro
  refine ⟨fun _ _ _ h => h, fun wq hq => ?_, ?_⟩
  · go_light
    try dsimp only at hq
    go_simp
    try with_reducible rfl
    done
  try simp only [Act.put, List.setIfInBounds_toArray, List.set_cons_zero, List.set_cons_succ]
  refine hTake (i := 7) rfl (by kernel_rfl) (by kernel_rfl) (by kernel_rfl) (by kernel_rfl) (by assumption) ?_
  apply Exists.intro
  refine ⟨fun _ _ _ h => h, fun wq hq => ?_, ?_⟩
  · go_light
    try dsimp only at hq
    go_simp
    try with_reducible rfl
    done
  try simp only [Act.put, List.setIfInBounds_toArray, List.set_cons_zero, List.set_cons_succ]
  refine hTake (i := 8) rfl (by kernel_rfl) (by kernel_rfl) (by kernel_rfl) (by kernel_rfl) (by assumption) ?_
  apply Exists.intro
  refine ⟨fun _ _ _ h => h, fun wq hq => ?_, ?_⟩
  · go_light
    try dsimp only at hq
    go_simp
    try with_reducible rfl
    done
  try simp only [Act.put, List.setIfInBounds_toArray, List.set_cons_zero, List.set_cons_succ]
  refine hTake (i := 9) rfl (by kernel_rfl) (by kernel_rfl) (by kernel_rfl) (by kernel_rfl) (by assumption) ?_
  apply Exists.intro
  refine ⟨fun _ _ _ h => h, fun wq hq => ?_, ?_⟩
  · go_light
    try dsimp only at hq
    go_simp
    try with_reducible rfl
    done
  try simp only [Act.put, List.setIfInBounds_toArray, List.set_cons_zero, List.set_cons_succ]
  refine wpAnyH_ready (rs := [0, 5]) (by kernel_rfl) (by simp) ?_
  refine AllReadyH.cons rfl (fun K hK => ?_) (AllReadyH.cons rfl (fun K hK => ?_) AllReadyH.nil)
  · obtain ⟨Wa, hWa, gWa, rWa⟩ : ∃ Y, Y = W0.alloc (.cells #[] 31) ∧ Gr W0 Y ∧ Y.ownsRow (w.heap.size + 1 + 1 + 1) 31 4 (.slice (some ⟨W0.heap.size, 0, none⟩) 0 0) 0 [] := ⟨_, rfl, gr_box _ _, own_le (own_none W0 _ 4) (Nat.le_trans HZ0.out HB0xs.out)⟩
    have HWa := Lib.hid hWa
    have GWa := Lib.hid gWa
    have RWa := Lib.hid rWa
    clear hWa gWa rWa
    go_simp
    rw [← HWa.out]
    have HBWa := Lib.hid (Below.trans HB0x.out (Below.mono GWa.out (Nat.le_trans HZ0.out HB0xs.out)))
    have HBWas := Lib.hid (Nat.le_trans HB0xs.out GWa.out.size)
    have SZWa : Hid (Wa.heap.size = W0.heap.size + 1) := Lib.hid (by rw [HWa.out]; simp)
    refine hK.out _ _ (bCell HBWa.out HC0.out (by omega)) (fun hx => ?_)
    have HSWa := hx
    clear hx hK K
    try simp only [Act.put, List.setIfInBounds_toArray, List.set_cons_zero, List.set_cons_succ]
    refine wpAnyH_ready (rs := [3, 5]) (by kernel_rfl) (by simp) ?_
    refine AllReadyH.cons rfl (fun K hK => ?_) (AllReadyH.cons rfl (fun K hK => ?_) AllReadyH.nil)
    · refine step_append_sl Wa rfl (.tmp 5) (.tmp 7) 22 rfl (w.heap.size + 1 + 1 + 1) 31 i0 _ 4 40 Try.underlying22 hi hz0 hz1 hz2 rfl (by decide) (.slice (some ⟨W0.heap.size, 0, none⟩) 0 0) 0 [] rfl RWa.out (.slice A n c) n (prows L) rfl (HSLb.out Wa HBWa.out) HONE.out HCC.out.1 HCC.out.2.1 (Nat.le_trans HZ0.out HBWas.out) n (Nat.zero_add _) ?_
      intro A4 c4 w4 hown4 hgr4 hat4
      have R4 := Lib.hid hown4
      have HB4 := Lib.hid (Below.trans HBWa.out (Kp.below hgr4 (Nat.le_trans HZ0.out HBWas.out) (fun g hg => (RWa.out.lt g hg).1)))
      have HB4s := Lib.hid (Nat.le_trans HBWas.out (World.grownBy.size hgr4))
      clear hown4 hgr4 hat4
      refine hK.out _ _ (bCell HB4.out HC0.out (by omega)) (fun hx => ?_)
      have HS4 := hx
      clear hx hK K
      try simp only [Act.put, List.setIfInBounds_toArray, List.set_cons_zero, List.set_cons_succ]
      refine wpAnyH_ready (rs := [5]) (by kernel_rfl) (by simp) ?_
      refine AllReadyH.cons rfl (fun K hK => ?_)  AllReadyH.nil
      obtain ⟨Wm, hWm, gWm, rWm⟩ : ∃ Y, Y = w4.alloc (.cells #[.int .i64 (-7), .int .i64 0, .int .i64 0, .string ⟨#[]⟩] 31) ∧ Gr w4 Y ∧ SL Y 4 (.slice (some ⟨w4.heap.size, 0, none⟩) 1 1) 1 [.int .i64 (-7), .int .i64 0, .int .i64 0, .string ⟨#[]⟩] := ⟨_, rfl, gr_box _ _, sl_new w4 _ _ 1 4 rfl (by unfold maxLen; omega)⟩
      have HWm := Lib.hid hWm
      have GWm := Lib.hid gWm
      have MWm := Lib.hid rWm
      clear hWm gWm rWm
      go_simp
      rw [← HWm.out]
      have RWm := Lib.hid (own_gr R4.out GWm.out)
      have HBWm := Lib.hid (Below.trans HB4.out (Below.mono GWm.out (Nat.le_trans HZ0.out HB4s.out)))
      have HBWms := Lib.hid (Nat.le_trans HB4s.out GWm.out.size)
      have SZWm : Hid (Wm.heap.size = w4.heap.size + 1) := Lib.hid (by rw [HWm.out]; simp)
      refine hK.out _ _ (bCell HBWm.out HC0.out (by omega)) (fun hx => ?_)
      have HSWm := hx
      clear hx hK K
      try simp only [Act.put, List.setIfInBounds_toArray, List.set_cons_zero, List.set_cons_succ]
      refine wpAnyH_ready (rs := [6]) (by kernel_rfl) (by simp) ?_
      refine AllReadyH.cons rfl (fun K hK => ?_)  AllReadyH.nil
      refine step_append_sl Wm rfl (.tmp 8) (.tmp 10) 22 rfl (w.heap.size + 1 + 1 + 1) 31 i0 _ 4 40 Try.underlying22 hi hz0 hz1 hz2 rfl (by decide) (.slice A4 n c4) n ([] ++ prows L) rfl RWm.out (.slice (some ⟨w4.heap.size, 0, none⟩) 1 1) 1 [.int .i64 (-7), .int .i64 0, .int .i64 0, .string ⟨#[]⟩] rfl MWm.out HM1.out HCC.out.2.2.1 HCC.out.2.2.2 (Nat.le_trans HZ0.out HBWms.out) (n + 1) rfl ?_
      intro A6 c6 w6 hown6 hgr6 hat6
      have R6 := Lib.hid hown6
      have HB6 := Lib.hid (Below.trans HBWm.out (Kp.below hgr6 (Nat.le_trans HZ0.out HBWms.out) (fun g hg => (RWm.out.lt g hg).1)))
      have HB6s := Lib.hid (Nat.le_trans HBWms.out (World.grownBy.size hgr6))
      clear hown6 hgr6 hat6
      refine hK.out _ _ (bCell HB6.out HC0.out (by omega)) (fun hx => ?_)
      have HS6 := hx
      clear hx hK K
      try simp only [Act.put, List.setIfInBounds_toArray, List.set_cons_zero, List.set_cons_succ]
      obtain ⟨g6, cc6, hA6, -⟩ := World.ownsRow.form R6.out (Nat.succ_pos n)
      injection hA6 with hA6 hn6 hc6
      subst hA6 hc6
      clear hn6
      have hs1 := slice_to_g _ 4 elemPacket sizePacket (n + 1) c6 n (by have := (own_len R6.out).1; omega) (some ⟨g6, 0, none⟩)
      refine hTake (i := 10) rfl (by kernel_rfl) (by kernel_rfl) (by kernel_rfl) (by kernel_rfl) (by assumption) ?_
      apply Exists.intro
      refine ⟨fun _ _ _ h => h, fun wq hq => ?_, ?_⟩
      · go_light
        try dsimp only at hq
        go_simp
        try with_reducible rfl
        done
      try simp only [Act.put, List.setIfInBounds_toArray, List.set_cons_zero, List.set_cons_succ]
      clear hs1
      refine hTake (i := 11) rfl (by kernel_rfl) (by kernel_rfl) (by kernel_rfl) (by kernel_rfl) (by assumption) ?_
      apply Exists.intro
      refine ⟨fun _ _ _ h => h, fun wq hq => ?_, ?_⟩
      · go_light
        try dsimp only at hq
        go_simp
        try with_reducible rfl
        done
      try simp only [Act.put, List.setIfInBounds_toArray, List.set_cons_zero, List.set_cons_succ]
      refine wpAnyH_ready (rs := [12]) (by kernel_rfl) (by simp) ?_
      refine AllReadyH.cons rfl (fun K hK => ?_) AllReadyH.nil
      have hb10 := HB2.out.below HB6.out (Nat.lt_succ_self _)
      have b0 := hb10.1
      have b1 := hb10.2.1
      have b2 := hb10.2.2.1
      have b3 := hb10.2.2.2.1
      have b4 := hb10.2.2.2.2.1
      have b5 := hb10.2.2.2.2.2.1
      have b6 := hb10.2.2.2.2.2.2.1
      have b7 := hb10.2.2.2.2.2.2.2.1
      have b8 := hb10.2.2.2.2.2.2.2.2.1
      have b9 := hb10.2.2.2.2.2.2.2.2.2
      clear hb10
      have hy10 := HF2.out.below HB6.out (Nat.lt_succ_self _)
      have y0 := hy10.2.1
      have y1 := hy10.2.2.1
      have y2 := hy10.2.2.2.1
      have y3 := hy10.2.2.2.2.1
      have y4 := hy10.2.2.2.2.2.1
      have y5 := hy10.2.2.2.2.2.2.1
      have y6 := hy10.2.2.2.2.2.2.2.1
      have y7 := hy10.2.2.2.2.2.2.2.2.1
      have y8 := hy10.2.2.2.2.2.2.2.2.2.1
      have y9 := hy10.2.2.2.2.2.2.2.2.2.2
      clear hy10
      have HMK : Hid (MO w6 (w.heap.size + 1 + 1 + 1) (.slice (some ⟨g6, 0, none⟩) n c6) L) := Lib.hid (by
        refine ⟨g6, c6, by rw [HN.out], ?_⟩
        rw [← HN.out]
        have e : ([] ++ prows L) ++ [Value.int .i64 (-7), .int .i64 0, .int .i64 0, .string ⟨#[]⟩] = prows (L ++ [markP]) := by
          rw [prows_append]; rfl
        rw [← e]
        exact R6.out)
      have HS6b := Lib.hid HS6
      clear HS6
      go_simp
      refine hK.out _ _ (setCell_there HS6b.out (by omega)) (fun hx => ?_)
      clear hx hK K
      try simp only [Act.put, List.setIfInBounds_toArray, List.set_cons_zero, List.set_cons_succ]
      refine wpAnyH_done (by kernel_rfl) ?_ _
      refine NoPanic.normal ?_
      have hd10 := HB1.out.below HB6.out (by omega)
      have d0 := hd10.1
      have d1 := hd10.2.1
      have d2 := hd10.2.2.1
      have d3 := hd10.2.2.2.1
      have d4 := hd10.2.2.2.2.1
      have d5 := hd10.2.2.2.2.2.1
      have d6 := hd10.2.2.2.2.2.2.1
      have d7 := hd10.2.2.2.2.2.2.2.1
      have d8 := hd10.2.2.2.2.2.2.2.2.1
      have d9 := hd10.2.2.2.2.2.2.2.2.2
      clear hd10
      have hz10 := HF1.out.below HB6.out (by omega)
      have z0 := hz10.2.1
      have z1 := hz10.2.2.1
      have z2 := hz10.2.2.2.1
      have z3 := hz10.2.2.2.2.1
      have z4 := hz10.2.2.2.2.2.1
      have z5 := hz10.2.2.2.2.2.2.1
      have z6 := hz10.2.2.2.2.2.2.2.1
      have z7 := hz10.2.2.2.2.2.2.2.2.1
      have z8 := hz10.2.2.2.2.2.2.2.2.2.1
      have z9 := hz10.2.2.2.2.2.2.2.2.2.2
      clear hz10
      go_wp2
      refine bodyPost_ret (v := .agg (ncells (.slice (some ⟨g6, 0, none⟩) n c6) nx s)) (by simp [results, Try.results9, go_sem, d0, d1, d2, d3, d4, d5, d6, d7, d8, d9]) rfl ⟨_, rfl, ?_, ?_⟩
      · obtain ⟨g, cc, hv, hr⟩ := HMK.out
        refine ⟨g, cc, hv, own_le (own_put10 (ownsRow_setCell_below hr (a := ⟨w.heap.size + 1 + 1, 0, none⟩) (Nat.lt_succ_self _) _) (by omega) _ _ _ _ _ _ _ _ _ _) (by omega)⟩
      · exact below_put10 (Below.setCell (Below.trans HG.out (Below.mono HB6.out (by omega))) (p := ⟨w.heap.size + 1 + 1, 0, none⟩) (show w.heap.size ≤ w.heap.size + 1 + 1 by omega) _) (by omega) _ _ _ _ _ _ _ _ _ _
    · obtain ⟨Wm, hWm, gWm, rWm⟩ : ∃ Y, Y = Wa.alloc (.cells #[.int .i64 (-7), .int .i64 0, .int .i64 0, .string ⟨#[]⟩] 31) ∧ Gr Wa Y ∧ SL Y 4 (.slice (some ⟨Wa.heap.size, 0, none⟩) 1 1) 1 [.int .i64 (-7), .int .i64 0, .int .i64 0, .string ⟨#[]⟩] := ⟨_, rfl, gr_box _ _, sl_new Wa _ _ 1 4 rfl (by unfold maxLen; omega)⟩
      have HWm := Lib.hid hWm
      have GWm := Lib.hid gWm
      have MWm := Lib.hid rWm
      clear hWm gWm rWm
      go_simp
      rw [← HWm.out]
      have RWm := Lib.hid (own_gr RWa.out GWm.out)
      have HBWm := Lib.hid (Below.trans HBWa.out (Below.mono GWm.out (Nat.le_trans HZ0.out HBWas.out)))
      have HBWms := Lib.hid (Nat.le_trans HBWas.out GWm.out.size)
      have SZWm : Hid (Wm.heap.size = Wa.heap.size + 1) := Lib.hid (by rw [HWm.out]; simp)
      refine hK.out _ _ (bCell HBWm.out HC0.out (by omega)) (fun hx => ?_)
      have HSWm := hx
      clear hx hK K
      try simp only [Act.put, List.setIfInBounds_toArray, List.set_cons_zero, List.set_cons_succ]
      refine wpAnyH_ready (rs := [3]) (by kernel_rfl) (by simp) ?_
      refine AllReadyH.cons rfl (fun K hK => ?_)  AllReadyH.nil
      refine step_append_sl Wm rfl (.tmp 5) (.tmp 7) 22 rfl (w.heap.size + 1 + 1 + 1) 31 i0 _ 4 40 Try.underlying22 hi hz0 hz1 hz2 rfl (by decide) (.slice (some ⟨W0.heap.size, 0, none⟩) 0 0) 0 [] rfl RWm.out (.slice A n c) n (prows L) rfl (HSLb.out Wm HBWm.out) HONE.out HCC.out.1 HCC.out.2.1 (Nat.le_trans HZ0.out HBWms.out) n (Nat.zero_add _) ?_
      intro A4 c4 w4 hown4 hgr4 hat4
      have R4 := Lib.hid hown4
      have HB4 := Lib.hid (Below.trans HBWm.out (Kp.below hgr4 (Nat.le_trans HZ0.out HBWms.out) (fun g hg => (RWm.out.lt g hg).1)))
      have HB4s := Lib.hid (Nat.le_trans HBWms.out (World.grownBy.size hgr4))
      have M4 := Lib.hid (SL.kp MWm.out hgr4 (fun b off hh => by
        obtain ⟨n', c', hh⟩ := hh
        injection hh with hh
        injection hh with hh
        injection hh with hh
        intro e
        have e2 : b = W0.heap.size := by simpa [Value.ownBlock] using e
        have := SZWa.out
        have := SZWm.out
        omega))
      clear hown4 hgr4 hat4
      refine hK.out _ _ (bCell HB4.out HC0.out (by omega)) (fun hx => ?_)
      have HS4 := hx
      clear hx hK K
      try simp only [Act.put, List.setIfInBounds_toArray, List.set_cons_zero, List.set_cons_succ]
      refine wpAnyH_ready (rs := [6]) (by kernel_rfl) (by simp) ?_
      refine AllReadyH.cons rfl (fun K hK => ?_)  AllReadyH.nil
      refine step_append_sl w4 rfl (.tmp 8) (.tmp 10) 22 rfl (w.heap.size + 1 + 1 + 1) 31 i0 _ 4 40 Try.underlying22 hi hz0 hz1 hz2 rfl (by decide) (.slice A4 n c4) n ([] ++ prows L) rfl R4.out (.slice (some ⟨Wa.heap.size, 0, none⟩) 1 1) 1 [.int .i64 (-7), .int .i64 0, .int .i64 0, .string ⟨#[]⟩] rfl M4.out HM1.out HCC.out.2.2.1 HCC.out.2.2.2 (Nat.le_trans HZ0.out HB4s.out) (n + 1) rfl ?_
      intro A6 c6 w6 hown6 hgr6 hat6
      have R6 := Lib.hid hown6
      have HB6 := Lib.hid (Below.trans HB4.out (Kp.below hgr6 (Nat.le_trans HZ0.out HB4s.out) (fun g hg => (R4.out.lt g hg).1)))
      have HB6s := Lib.hid (Nat.le_trans HB4s.out (World.grownBy.size hgr6))
      clear hown6 hgr6 hat6
      refine hK.out _ _ (bCell HB6.out HC0.out (by omega)) (fun hx => ?_)
      have HS6 := hx
      clear hx hK K
      try simp only [Act.put, List.setIfInBounds_toArray, List.set_cons_zero, List.set_cons_succ]
      obtain ⟨g6, cc6, hA6, -⟩ := World.ownsRow.form R6.out (Nat.succ_pos n)
      injection hA6 with hA6 hn6 hc6
      subst hA6 hc6
      clear hn6
      have hs1 := slice_to_g _ 4 elemPacket sizePacket (n + 1) c6 n (by have := (own_len R6.out).1; omega) (some ⟨g6, 0, none⟩)
      refine hTake (i := 10) rfl (by kernel_rfl) (by kernel_rfl) (by kernel_rfl) (by kernel_rfl) (by assumption) ?_
      apply Exists.intro
      refine ⟨fun _ _ _ h => h, fun wq hq => ?_, ?_⟩
      · go_light
        try dsimp only at hq
        go_simp
        try with_reducible rfl
        done
      try simp only [Act.put, List.setIfInBounds_toArray, List.set_cons_zero, List.set_cons_succ]
      clear hs1
      refine hTake (i := 11) rfl (by kernel_rfl) (by kernel_rfl) (by kernel_rfl) (by kernel_rfl) (by assumption) ?_
      apply Exists.intro
      refine ⟨fun _ _ _ h => h, fun wq hq => ?_, ?_⟩
      · go_light
        try dsimp only at hq
        go_simp
        try with_reducible rfl
        done
      try simp only [Act.put, List.setIfInBounds_toArray, List.set_cons_zero, List.set_cons_succ]
      refine wpAnyH_ready (rs := [12]) (by kernel_rfl) (by simp) ?_
      refine AllReadyH.cons rfl (fun K hK => ?_) AllReadyH.nil
      have hb10 := HB2.out.below HB6.out (Nat.lt_succ_self _)
      have b0 := hb10.1
      have b1 := hb10.2.1
      have b2 := hb10.2.2.1
      have b3 := hb10.2.2.2.1
      have b4 := hb10.2.2.2.2.1
      have b5 := hb10.2.2.2.2.2.1
      have b6 := hb10.2.2.2.2.2.2.1
      have b7 := hb10.2.2.2.2.2.2.2.1
      have b8 := hb10.2.2.2.2.2.2.2.2.1
      have b9 := hb10.2.2.2.2.2.2.2.2.2
      clear hb10
      have hy10 := HF2.out.below HB6.out (Nat.lt_succ_self _)
      have y0 := hy10.2.1
      have y1 := hy10.2.2.1
      have y2 := hy10.2.2.2.1
      have y3 := hy10.2.2.2.2.1
      have y4 := hy10.2.2.2.2.2.1
      have y5 := hy10.2.2.2.2.2.2.1
      have y6 := hy10.2.2.2.2.2.2.2.1
      have y7 := hy10.2.2.2.2.2.2.2.2.1
      have y8 := hy10.2.2.2.2.2.2.2.2.2.1
      have y9 := hy10.2.2.2.2.2.2.2.2.2.2
      clear hy10
      have HMK : Hid (MO w6 (w.heap.size + 1 + 1 + 1) (.slice (some ⟨g6, 0, none⟩) n c6) L) := Lib.hid (by
        refine ⟨g6, c6, by rw [HN.out], ?_⟩
        rw [← HN.out]
        have e : ([] ++ prows L) ++ [Value.int .i64 (-7), .int .i64 0, .int .i64 0, .string ⟨#[]⟩] = prows (L ++ [markP]) := by
          rw [prows_append]; rfl
        rw [← e]
        exact R6.out)
      have HS6b := Lib.hid HS6
      clear HS6
      go_simp
      refine hK.out _ _ (setCell_there HS6b.out (by omega)) (fun hx => ?_)
      clear hx hK K
      try simp only [Act.put, List.setIfInBounds_toArray, List.set_cons_zero, List.set_cons_succ]
      refine wpAnyH_done (by kernel_rfl) ?_ _
      refine NoPanic.normal ?_
      have hd10 := HB1.out.below HB6.out (by omega)
      have d0 := hd10.1
      have d1 := hd10.2.1
      have d2 := hd10.2.2.1
      have d3 := hd10.2.2.2.1
      have d4 := hd10.2.2.2.2.1
      have d5 := hd10.2.2.2.2.2.1
      have d6 := hd10.2.2.2.2.2.2.1
      have d7 := hd10.2.2.2.2.2.2.2.1
      have d8 := hd10.2.2.2.2.2.2.2.2.1
      have d9 := hd10.2.2.2.2.2.2.2.2.2
      clear hd10
      have hz10 := HF1.out.below HB6.out (by omega)
      have z0 := hz10.2.1
      have z1 := hz10.2.2.1
      have z2 := hz10.2.2.2.1
      have z3 := hz10.2.2.2.2.1
      have z4 := hz10.2.2.2.2.2.1
      have z5 := hz10.2.2.2.2.2.2.1
      have z6 := hz10.2.2.2.2.2.2.2.1
      have z7 := hz10.2.2.2.2.2.2.2.2.1
      have z8 := hz10.2.2.2.2.2.2.2.2.2.1
      have z9 := hz10.2.2.2.2.2.2.2.2.2.2
      clear hz10
      go_wp2
      refine bodyPost_ret (v := .agg (ncells (.slice (some ⟨g6, 0, none⟩) n c6) nx s)) (by simp [results, Try.results9, go_sem, d0, d1, d2, d3, d4, d5, d6, d7, d8, d9]) rfl ⟨_, rfl, ?_, ?_⟩
      · obtain ⟨g, cc, hv, hr⟩ := HMK.out
        refine ⟨g, cc, hv, own_le (own_put10 (ownsRow_setCell_below hr (a := ⟨w.heap.size + 1 + 1, 0, none⟩) (Nat.lt_succ_self _) _) (by omega) _ _ _ _ _ _ _ _ _ _) (by omega)⟩
      · exact below_put10 (Below.setCell (Below.trans HG.out (Below.mono HB6.out (by omega))) (p := ⟨w.heap.size + 1 + 1, 0, none⟩) (show w.heap.size ≤ w.heap.size + 1 + 1 by omega) _) (by omega) _ _ _ _ _ _ _ _ _ _
  · obtain ⟨Wm, hWm, gWm, rWm⟩ : ∃ Y, Y = W0.alloc (.cells #[.int .i64 (-7), .int .i64 0, .int .i64 0, .string ⟨#[]⟩] 31) ∧ Gr W0 Y ∧ SL Y 4 (.slice (some ⟨W0.heap.size, 0, none⟩) 1 1) 1 [.int .i64 (-7), .int .i64 0, .int .i64 0, .string ⟨#[]⟩] := ⟨_, rfl, gr_box _ _, sl_new W0 _ _ 1 4 rfl (by unfold maxLen; omega)⟩
    have HWm := Lib.hid hWm
    have GWm := Lib.hid gWm
    have MWm := Lib.hid rWm
    clear hWm gWm rWm
    go_simp
    rw [← HWm.out]
    have HBWm := Lib.hid (Below.trans HB0x.out (Below.mono GWm.out (Nat.le_trans HZ0.out HB0xs.out)))
    have HBWms := Lib.hid (Nat.le_trans HB0xs.out GWm.out.size)
    have SZWm : Hid (Wm.heap.size = W0.heap.size + 1) := Lib.hid (by rw [HWm.out]; simp)
    refine hK.out _ _ (bCell HBWm.out HC0.out (by omega)) (fun hx => ?_)
    have HSWm := hx
    clear hx hK K
    try simp only [Act.put, List.setIfInBounds_toArray, List.set_cons_zero, List.set_cons_succ]
    refine wpAnyH_ready (rs := [0]) (by kernel_rfl) (by simp) ?_
    refine AllReadyH.cons rfl (fun K hK => ?_)  AllReadyH.nil
    obtain ⟨Wa, hWa, gWa, rWa⟩ : ∃ Y, Y = Wm.alloc (.cells #[] 31) ∧ Gr Wm Y ∧ Y.ownsRow (w.heap.size + 1 + 1 + 1) 31 4 (.slice (some ⟨Wm.heap.size, 0, none⟩) 0 0) 0 [] := ⟨_, rfl, gr_box _ _, own_le (own_none Wm _ 4) (Nat.le_trans HZ0.out HBWms.out)⟩
    have HWa := Lib.hid hWa
    have GWa := Lib.hid gWa
    have RWa := Lib.hid rWa
    clear hWa gWa rWa
    go_simp
    rw [← HWa.out]
    have MWa := Lib.hid (MWm.out.gr GWa.out)
    have HBWa := Lib.hid (Below.trans HBWm.out (Below.mono GWa.out (Nat.le_trans HZ0.out HBWms.out)))
    have HBWas := Lib.hid (Nat.le_trans HBWms.out GWa.out.size)
    have SZWa : Hid (Wa.heap.size = Wm.heap.size + 1) := Lib.hid (by rw [HWa.out]; simp)
    refine hK.out _ _ (bCell HBWa.out HC0.out (by omega)) (fun hx => ?_)
    have HSWa := hx
    clear hx hK K
    try simp only [Act.put, List.setIfInBounds_toArray, List.set_cons_zero, List.set_cons_succ]
    refine wpAnyH_ready (rs := [3]) (by kernel_rfl) (by simp) ?_
    refine AllReadyH.cons rfl (fun K hK => ?_)  AllReadyH.nil
    refine step_append_sl Wa rfl (.tmp 5) (.tmp 7) 22 rfl (w.heap.size + 1 + 1 + 1) 31 i0 _ 4 40 Try.underlying22 hi hz0 hz1 hz2 rfl (by decide) (.slice (some ⟨Wm.heap.size, 0, none⟩) 0 0) 0 [] rfl RWa.out (.slice A n c) n (prows L) rfl (HSLb.out Wa HBWa.out) HONE.out HCC.out.1 HCC.out.2.1 (Nat.le_trans HZ0.out HBWas.out) n (Nat.zero_add _) ?_
    intro A4 c4 w4 hown4 hgr4 hat4
    have R4 := Lib.hid hown4
    have HB4 := Lib.hid (Below.trans HBWa.out (Kp.below hgr4 (Nat.le_trans HZ0.out HBWas.out) (fun g hg => (RWa.out.lt g hg).1)))
    have HB4s := Lib.hid (Nat.le_trans HBWas.out (World.grownBy.size hgr4))
    have M4 := Lib.hid (SL.kp MWa.out hgr4 (fun b off hh => by
      obtain ⟨n', c', hh⟩ := hh
      injection hh with hh
      injection hh with hh
      injection hh with hh
      intro e
      have e2 : b = Wm.heap.size := by simpa [Value.ownBlock] using e
      have := SZWa.out
      have := SZWm.out
      omega))
    clear hown4 hgr4 hat4
    refine hK.out _ _ (bCell HB4.out HC0.out (by omega)) (fun hx => ?_)
    have HS4 := hx
    clear hx hK K
    try simp only [Act.put, List.setIfInBounds_toArray, List.set_cons_zero, List.set_cons_succ]
    refine wpAnyH_ready (rs := [6]) (by kernel_rfl) (by simp) ?_
    refine AllReadyH.cons rfl (fun K hK => ?_)  AllReadyH.nil
    refine step_append_sl w4 rfl (.tmp 8) (.tmp 10) 22 rfl (w.heap.size + 1 + 1 + 1) 31 i0 _ 4 40 Try.underlying22 hi hz0 hz1 hz2 rfl (by decide) (.slice A4 n c4) n ([] ++ prows L) rfl R4.out (.slice (some ⟨W0.heap.size, 0, none⟩) 1 1) 1 [.int .i64 (-7), .int .i64 0, .int .i64 0, .string ⟨#[]⟩] rfl M4.out HM1.out HCC.out.2.2.1 HCC.out.2.2.2 (Nat.le_trans HZ0.out HB4s.out) (n + 1) rfl ?_
    intro A6 c6 w6 hown6 hgr6 hat6
    have R6 := Lib.hid hown6
    have HB6 := Lib.hid (Below.trans HB4.out (Kp.below hgr6 (Nat.le_trans HZ0.out HB4s.out) (fun g hg => (R4.out.lt g hg).1)))
    have HB6s := Lib.hid (Nat.le_trans HB4s.out (World.grownBy.size hgr6))
    clear hown6 hgr6 hat6
    refine hK.out _ _ (bCell HB6.out HC0.out (by omega)) (fun hx => ?_)
    have HS6 := hx
    clear hx hK K
    try simp only [Act.put, List.setIfInBounds_toArray, List.set_cons_zero, List.set_cons_succ]
    obtain ⟨g6, cc6, hA6, -⟩ := World.ownsRow.form R6.out (Nat.succ_pos n)
    injection hA6 with hA6 hn6 hc6
    subst hA6 hc6
    clear hn6
    have hs1 := slice_to_g _ 4 elemPacket sizePacket (n + 1) c6 n (by have := (own_len R6.out).1; omega) (some ⟨g6, 0, none⟩)
    refine hTake (i := 10) rfl (by kernel_rfl) (by kernel_rfl) (by kernel_rfl) (by kernel_rfl) (by assumption) ?_
    apply Exists.intro
    refine ⟨fun _ _ _ h => h, fun wq hq => ?_, ?_⟩
    · go_light
      try dsimp only at hq
      go_simp
      try with_reducible rfl
      done
    try simp only [Act.put, List.setIfInBounds_toArray, List.set_cons_zero, List.set_cons_succ]
    clear hs1
    refine hTake (i := 11) rfl (by kernel_rfl) (by kernel_rfl) (by kernel_rfl) (by kernel_rfl) (by assumption) ?_
    apply Exists.intro
    refine ⟨fun _ _ _ h => h, fun wq hq => ?_, ?_⟩
    · go_light
      try dsimp only at hq
      go_simp
      try with_reducible rfl
      done
    try simp only [Act.put, List.setIfInBounds_toArray, List.set_cons_zero, List.set_cons_succ]
    refine wpAnyH_ready (rs := [12]) (by kernel_rfl) (by simp) ?_
    refine AllReadyH.cons rfl (fun K hK => ?_) AllReadyH.nil
    have hb10 := HB2.out.below HB6.out (Nat.lt_succ_self _)
    have b0 := hb10.1
    have b1 := hb10.2.1
    have b2 := hb10.2.2.1
    have b3 := hb10.2.2.2.1
    have b4 := hb10.2.2.2.2.1
    have b5 := hb10.2.2.2.2.2.1
    have b6 := hb10.2.2.2.2.2.2.1
    have b7 := hb10.2.2.2.2.2.2.2.1
    have b8 := hb10.2.2.2.2.2.2.2.2.1
    have b9 := hb10.2.2.2.2.2.2.2.2.2
    clear hb10
    have hy10 := HF2.out.below HB6.out (Nat.lt_succ_self _)
    have y0 := hy10.2.1
    have y1 := hy10.2.2.1
    have y2 := hy10.2.2.2.1
    have y3 := hy10.2.2.2.2.1
    have y4 := hy10.2.2.2.2.2.1
    have y5 := hy10.2.2.2.2.2.2.1
    have y6 := hy10.2.2.2.2.2.2.2.1
    have y7 := hy10.2.2.2.2.2.2.2.2.1
    have y8 := hy10.2.2.2.2.2.2.2.2.2.1
    have y9 := hy10.2.2.2.2.2.2.2.2.2.2
    clear hy10
    have HMK : Hid (MO w6 (w.heap.size + 1 + 1 + 1) (.slice (some ⟨g6, 0, none⟩) n c6) L) := Lib.hid (by
      refine ⟨g6, c6, by rw [HN.out], ?_⟩
      rw [← HN.out]
      have e : ([] ++ prows L) ++ [Value.int .i64 (-7), .int .i64 0, .int .i64 0, .string ⟨#[]⟩] = prows (L ++ [markP]) := by
        rw [prows_append]; rfl
      rw [← e]
      exact R6.out)
    have HS6b := Lib.hid HS6
    clear HS6
    go_simp
    refine hK.out _ _ (setCell_there HS6b.out (by omega)) (fun hx => ?_)
    clear hx hK K
    try simp only [Act.put, List.setIfInBounds_toArray, List.set_cons_zero, List.set_cons_succ]
    refine wpAnyH_done (by kernel_rfl) ?_ _
    refine NoPanic.normal ?_
    have hd10 := HB1.out.below HB6.out (by omega)
    have d0 := hd10.1
    have d1 := hd10.2.1
    have d2 := hd10.2.2.1
    have d3 := hd10.2.2.2.1
    have d4 := hd10.2.2.2.2.1
    have d5 := hd10.2.2.2.2.2.1
    have d6 := hd10.2.2.2.2.2.2.1
    have d7 := hd10.2.2.2.2.2.2.2.1
    have d8 := hd10.2.2.2.2.2.2.2.2.1
    have d9 := hd10.2.2.2.2.2.2.2.2.2
    clear hd10
    have hz10 := HF1.out.below HB6.out (by omega)
    have z0 := hz10.2.1
    have z1 := hz10.2.2.1
    have z2 := hz10.2.2.2.1
    have z3 := hz10.2.2.2.2.1
    have z4 := hz10.2.2.2.2.2.1
    have z5 := hz10.2.2.2.2.2.2.1
    have z6 := hz10.2.2.2.2.2.2.2.1
    have z7 := hz10.2.2.2.2.2.2.2.2.1
    have z8 := hz10.2.2.2.2.2.2.2.2.2.1
    have z9 := hz10.2.2.2.2.2.2.2.2.2.2
    clear hz10
    go_wp2
    refine bodyPost_ret (v := .agg (ncells (.slice (some ⟨g6, 0, none⟩) n c6) nx s)) (by simp [results, Try.results9, go_sem, d0, d1, d2, d3, d4, d5, d6, d7, d8, d9]) rfl ⟨_, rfl, ?_, ?_⟩
    · obtain ⟨g, cc, hv, hr⟩ := HMK.out
      refine ⟨g, cc, hv, own_le (own_put10 (ownsRow_setCell_below hr (a := ⟨w.heap.size + 1 + 1, 0, none⟩) (Nat.lt_succ_self _) _) (by omega) _ _ _ _ _ _ _ _ _ _) (by omega)⟩
    · exact below_put10 (Below.setCell (Below.trans HG.out (Below.mono HB6.out (by omega))) (p := ⟨w.heap.size + 1 + 1, 0, none⟩) (show w.heap.size ≤ w.heap.size + 1 + 1 by omega) _) (by omega) _ _ _ _ _ _ _ _ _ _
end Go.Proofs.Ytfmfeokjnkbpeaa.Wi
