/- Walk: the document's net without a packet. -/
import Derived.Test.YtfmfeokjnkbpeaaWiG
namespace Go.Proofs.Ytfmfeokjnkbpeaa.Wi
open Go.RowKit

theorem NB.kp {r : Option Nat} {w w' : World} {b : Nat} {v : Value} {nx : Int} {s : Nat → Int} (h : NB w b v nx s) (g : Kp r w w') (hr : some b ≠ r) : NB w' b v nx s := by
  obtain ⟨h0, h1, h2, h3, h4, h5, h6, h7, h8, h9⟩ := h
  exact ⟨g.cell h0 hr, g.cell h1 hr, g.cell h2 hr, g.cell h3 hr, g.cell h4 hr, g.cell h5 hr, g.cell h6 hr, g.cell h7 hr, g.cell h8 hr, g.cell h9 hr⟩
theorem NF.kp {r : Option Nat} {w w' : World} {b : Nat} (h : NF w b) (g : Kp r w w') (hr : some b ≠ r) : NF w' b := by
  obtain ⟨hb, h0, h1, h2, h3, h4, h5, h6, h7, h8, h9⟩ := h
  exact ⟨Nat.lt_of_lt_of_le hb g.size, (g.frozen hb hr).trans h0, (g.frozen hb hr).trans h1, (g.frozen hb hr).trans h2, (g.frozen hb hr).trans h3, (g.frozen hb hr).trans h4, (g.frozen hb hr).trans h5, (g.frozen hb hr).trans h6, (g.frozen hb hr).trans h7, (g.frozen hb hr).trans h8, (g.frozen hb hr).trans h9⟩
theorem PO.addr {w : World} {B : Nat} {v : Value} {L : List P} (h : PO w B v L) (hi : 0 < L.length) : ∃ g c, v = .slice (some ⟨g, 0, none⟩) L.length c := by
  obtain ⟨g, c, hv, _⟩ := World.ownsRow.form h hi
  exact ⟨g, c, hv⟩

set_option maxRecDepth 100000 in
set_option maxHeartbeats 4000000 in
theorem rwithout_any (v : Value) (L : List P) (nx : Int) (s : Nat → Int) (k : Nat) (hk : k < L.length) (w : World) (hv : PV w v L) (hlen : L.length * 40 ≤ 140737488355328) :
    Calls Try.prog 23 #[.agg (ncells v nx s), .int .i64 k] w fun e w' => RetNet (less L k) nx s w e w' := by
  obtain ⟨A, c, hva, -⟩ := id hv
  obtain ⟨i0, hi, hz0, hz1, hz2⟩ := info_parts infoPacket
  obtain ⟨n, hn⟩ : ∃ n, n = L.length := ⟨_, rfl⟩
  have HN := Lib.hid hn
  rw [← hn] at hva hk
  subst hva
  obtain ⟨W, hW, hG, hB0, hF0, hB1, hF1, hz⟩ := boxesNN (.slice A n c) nx s w
  have HC := Lib.hid (rcopy_any (.slice A n c) L nx s W (hv.gr hG) hlen)
  have HB0 := Lib.hid hB0
  have HB1 := Lib.hid hB1
  have HF1 := Lib.hid hF1
  have HG := Lib.hid hG
  have HZ := Lib.hid hz
  clear hF0 hB1 hF1 hG hv hz hn
  obtain ⟨a0, a1, a2, a3, a4, a5, a6, a7, a8, a9⟩ := hB0
  go_enter Try.func23, Try.ntmps23
  go_upto_region 1 with (fail)
  rw [← hW]
  go_wp2_with fail
  rw [← hW]
  clear hW a0 a1 a2 a3 a4 a5 a6 a7 a8 a9
  refine HC.out.mono ?_
  rintro e w3 ⟨v3, rfl, hown, g3⟩
  obtain ⟨g, c3, hv3⟩ := hown.addr (by rw [← HN.out]; omega)
  rw [← HN.out] at hv3
  subst hv3
  obtain ⟨hnc, hc63, hBg, hgw⟩ := own_len (by unfold PO at hown; rw [← HN.out] at hown; exact hown)
  obtain ⟨bx, hbx⟩ : ∃ b, b = w3.heap.size := ⟨_, rfl⟩
  obtain ⟨W4, hW4, G4, hB4, hF4⟩ : ∃ W4, W4 = w3.alloc (.cells (ncells (.slice (some ⟨g, 0, none⟩) n c3) nx s) 25) ∧ Gr w3 W4 ∧ NB W4 bx (.slice (some ⟨g, 0, none⟩) n c3) nx s ∧ NF W4 bx := by
    rw [hbx]
    exact ⟨_, rfl, gr_box _ _, NB.new _ _ _ _, NF.new _ _ _ _⟩
  have hs1 := slice_to_g _ 4 elemPacket sizePacket n c3 k (by omega) (some ⟨g, 0, none⟩)
  have hs2 := slice_from_g _ 4 elemPacket sizePacket n c3 (k + 1) (by omega) (some ⟨g, 0, none⟩)
  obtain ⟨A2, hA2⟩ := sliced_form (some ⟨g, 0, none⟩) (k + 1) n c3 4
  have hp2 := (hown.pv.gr G4).drop (k := k + 1) (by omega)
  rw [hA2] at hs2 hp2
  rw [show (((k + 1 : Nat) : Int)) = (k : Int) + 1 by omega] at hs2
  have e1 : IntKind.i64.wrap ((k : Int) + 1) = (k : Int) + 1 := IntWalk.i64_in _ ⟨by omega, by omega⟩
  have hpre := own_prefix (k := k) (by unfold PO at hown; rw [← HN.out] at hown; exact hown) (by omega)
  unfold prows at hpre
  rw [rows_take prow 4 prow_len] at hpre
  obtain ⟨n2, hn2⟩ : ∃ m, m = n - (k + 1) := ⟨_, rfl⟩
  obtain ⟨c2, hc2'⟩ : ∃ m, m = c3 - (k + 1) := ⟨_, rfl⟩
  rw [← hn2, ← hc2'] at hs2 hp2
  have hd : (L.drop (k + 1)).length = n2 := by rw [List.length_drop, ← HN.out, hn2]
  have hsl := hp2.sl
  rw [hd] at hsl
  have HPRE := Lib.hid (own_gr hpre G4)
  have HSL := Lib.hid hsl
  have HONE := Lib.hid (prows_one (L.drop (k + 1)))
  have HB4 := Lib.hid hB4
  have HF4 := Lib.hid hF4
  have HB1' := Lib.hid (HB1.out.gr (g3.trans G4))
  have HF1' := Lib.hid (HF1.out.gr (g3.trans G4))
  have HG4 := Lib.hid ((HG.out.trans g3).trans G4)
  have HBG : Hid (w.heap.size + 1 + 1 ≤ g ∧ g < bx ∧ bx < W4.heap.size) := Lib.hid ⟨by have := HZ.out; omega, by omega, hF4.1⟩
  have HCC : Hid (k + n2 ≤ maxLen ∧ (k + n2) * 40 ≤ 140737488355328 ∧ W.heap.size ≤ W4.heap.size) := Lib.hid ⟨by unfold maxLen; omega, by rw [← HN.out] at hlen; omega, (g3.trans G4).size⟩
  have HNN : Hid (k + n2 = (less L k).length) := Lib.hid (by rw [less_len (by rw [← HN.out]; exact hk), ← HN.out]; omega)
  have HBX := Lib.hid hbx
  have HHW := Lib.hid hW4
  clear hown g3 G4 hA2 hp2 hpre hn2 hc2' hd hsl hF4 hB4 hgw hnc hc63 hBg hbx hW4 HB1 HF1 HB0 HC
  go_upto_region 2 with (fail)
  rw [← HHW.out, ← HBX.out]
  obtain ⟨a0, a1, a2, a3, a4, a5, a6, a7, a8, a9⟩ := HB4.out
  go_still_tail 9, (by kernel_rfl)
  obtain ⟨W5, hW5, G5⟩ : ∃ W5, W5 = W4.drew ∧ Gr W4 W5 := ⟨_, rfl, (Gr.refl W4).drew⟩
  change wpList _ _ _ _ _ W4.drew
  rw [← hW5]
  clear hW5 a0 a1 a2 a3 a4 a5 a6 a7 a8 a9 hs1 hs2 e1
  have HG5 := Lib.hid G5
  clear G5
  refine wpList_append_sl W5 rfl (.tmp 11) (.tmp 16) 22 rfl W.heap.size 31 i0 _ 4 40 Try.underlying22 hi hz0 hz1 hz2 rfl (by decide) (.slice (some ⟨g, 0, none⟩) k c3) k _ rfl (own_gr HPRE.out HG5.out) (.slice A2 n2 c2) n2 _ rfl (HSL.out.gr HG5.out) HONE.out HCC.out.1 HCC.out.2.1 (Nat.le_trans HCC.out.2.2 HG5.out.size) (k + n2) rfl ?_
  intro A6 c6 w6 hown6 hgr hat
  have hk6 : Kp (some g) W4 w6 := Kp.trans (Kp.of_gr HG5.out) hgr
  have ne1 : some (w.heap.size + 1) ≠ some g := fun e => by injection e with e; have := HBG.out.1; omega
  have ne2 : some bx ≠ some g := fun e => by injection e with e; have := HBG.out.2.1; omega
  obtain ⟨a0, a1, a2, a3, a4, a5, a6, a7, a8, a9⟩ := HB4.out.kp hk6 ne2
  obtain ⟨-, x0, -⟩ := HF4.out.kp hk6 ne2
  obtain ⟨b0, b1, b2, b3, b4, b5, b6, b7, b8, b9⟩ := HB1'.out.kp hk6 ne1
  obtain ⟨-, y0, y1, y2, y3, y4, y5, y6, y7, y8, y9⟩ := HF1'.out.kp hk6 ne1
  have HO : Hid (PO w6 (w.heap.size + 1 + 1) (.slice A6 (k + n2) c6) (less L k)) := by
    unfold PO
    rw [← HNN.out]
    refine own_le ?_ (Nat.le_of_eq HZ.out.symm)
    have e : prows (less L k) = (L.take k).flatMap prow ++ prows (L.drop (k + 1)) := by unfold less; rw [prows_append]; rfl
    rw [e]
    exact hown6
  have hne : bx ≠ w.heap.size + 1 := by have := HBG.out; omega
  have hob : (Value.slice A6 (k + n2) c6).ownBlock ≠ some bx := by
    rcases hat with h | h
    · rw [h]; exact fun e => ne2 e.symm
    · rw [h]; intro e; injection e with e; have h1 := HG5.out.size; have h2 := HBG.out; omega
  have HOB := Lib.hid hob
  have HG6 : Hid (Gr w w6) := Lib.hid (Below.trans HG4.out (Kp.below hk6 HG4.out.size (fun x hx => by injection hx with hx; have := HBG.out.1; omega)))
  have hwb : w.heap.size ≤ bx := by have := HBG.out; omega
  obtain ⟨N, hN⟩ : ∃ N, N = k + n2 := ⟨_, rfl⟩
  rw [← hN] at HO HOB ⊢
  clear hown6 hgr hat hk6 ne1 ne2 hob hN
  go_wp2
  refine bodyPost_ret (v := .agg (ncells (.slice A6 N c6) nx s)) (by simp [results, Try.results23, go_sem, b0, b1, b2, b3, b4, b5, b6, b7, b8, b9]) rfl ⟨_, rfl, ?_, ?_⟩
  · exact own_le (own_put10 (own_set_other HO.out HOB.out 0 (.slice A6 N c6)) (Nat.lt_succ_self _) _ _ _ _ _ _ _ _ _ _) (by omega)
  · exact below_put10 (Below.setCell HG6.out hwb _) (Nat.le_succ _) _ _ _ _ _ _ _ _ _ _
end Go.Proofs.Ytfmfeokjnkbpeaa.Wi
