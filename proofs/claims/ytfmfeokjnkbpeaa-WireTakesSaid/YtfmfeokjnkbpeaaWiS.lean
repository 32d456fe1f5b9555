/- The law WireTwice. -/
import Derived.Test.YtfmfeokjnkbpeaaWiR
namespace Go.Proofs.Ytfmfeokjnkbpeaa.Wi
open Go.RowKit
set_option linter.unusedSimpArgs false

theorem less_snoc (L : List P) (p : P) : less (L ++ [p]) L.length = L := by
  unfold less
  rw [List.take_left' rfl, List.drop_of_length_le (by rw [List.length_append, List.length_singleton]; exact Nat.le_refl _), List.append_nil]
/-- What a call answers that adds a packet, or none. -/
def RetMore (L : List P) (s : Nat → Int) (w : World) (e : Ending) (w' : World) : Prop :=
  ∃ Lr nr sr er, RetNetE Lr nr sr er w e w' ∧ ((er = 0 ∧ s = sr ∧ (∃ p, Lr = L ++ [p]) ∧ Fit Lr ∧ L.length < 1024) ∨ (er ≠ 0 ∧ Lr = []))
theorem RetMore.bad {L : List P} {s : Nat → Int} {w : World} {e : Ending} {w' : World} {er : Int} (h : RetNetE [] 0 zs er w e w') (he : er ≠ 0) : RetMore L s w e w' := ⟨[], 0, zs, er, h, .inr ⟨he, rfl⟩⟩
theorem fit_snoc {L : List P} (h : Fit L) {p : P} (hp : p.body.size ≤ 281474976710656) : Fit (L ++ [p]) := fun q hq => by
  rcases List.mem_append.1 hq with h1 | h1
  · exact h q h1
  · rw [List.mem_singleton.1 h1]; exact hp
def RetTw (L : List P) (nx : Int) (s : Nat → Int) (w : World) (e : Ending) (w' : World) : Prop :=
  ∃ Lr nr sr er, RetNetE Lr nr sr er w e w' ∧ ((er = 0 ∧ nx = nr ∧ s = sr ∧ (∃ p, Lr = L ++ [p]) ∧ Fit Lr ∧ L.length < 1024) ∨ er ≠ 0)
theorem twice_all (v : Value) (L : List P) (nx : Int) (s : Nat → Int) (k : Int) (w : World) (hv : PV w v L) (hf : Fit L) :
    Calls Try.prog 14 #[.agg (ncells v nx s), .int .i64 k] w fun e w' => RetTw L nx s w e w' := by
  rcases ht : thereB k L.length with _ | _
  · exact (twice_gone v L nx s k ht w hv).mono fun e w' h => ⟨_, _, _, 40, h, .inr (by decide)⟩
  · obtain ⟨j, rfl, hj⟩ := there_iff.1 ht
    by_cases hl : L.length < 1024
    · exact (twice_yes v L nx s j hj hl w hv hf).mono fun e w' h => ⟨_, _, _, 0, h, .inl ⟨rfl, rfl, rfl, ⟨_, rfl⟩, fit_snoc hf (hf _ (List.getElem_mem hj)), hl⟩⟩
    · exact (twice_full v L nx s j hj (by omega) w hv).mono fun e w' h => ⟨_, _, _, 4, h, .inr (by decide)⟩
theorem send_all (v : Value) (L : List P) (nx : Int) (s : Nat → Int) (a b : Int) (x : ByteArray) (w : World) (hv : PV w v L) (hf : Fit L) (hx : x.size ≤ 9223372036854775807) :
    Calls Try.prog 16 #[.agg (ncells v nx s), .int .i64 a, .int .i64 b, .string x] w fun e w' => RetMore L s w e w' := by
  rcases ha : mem a with _ | _
  · exact (send_src v L nx s a b x w hv hx ha).mono fun e w' h => RetMore.bad h (by decide)
  rcases hb : mem b with _ | _
  · exact (send_dst v L nx s a b x w hv hx ha hb).mono fun e w' h => RetMore.bad h (by decide)
  by_cases hs : x.size ≤ 1048576
  · by_cases hl : L.length < 1024
    · exact (send_ok v L nx s a b x w hv ha hb hs hl hf).mono fun e w' h => ⟨_, _, _, 0, h, .inl ⟨rfl, rfl, ⟨_, rfl⟩, fit_snoc hf (Nat.le_trans hs (by decide)), hl⟩⟩
    · exact (send_full v L nx s a b x w hv hx ha hb hs (by omega)).mono fun e w' h => RetMore.bad h (by decide)
  · exact (send_long v L nx s a b x w hv hx ha hb (by omega)).mono fun e w' h => RetMore.bad h (by decide)
/-- The boxes of a net and of a sending. -/
theorem boxesNS (v : Value) (nx : Int) (s : Nat → Int) (a b : Int) (x : ByteArray) (w : World) : ∃ W, W = (w.alloc (.cells (ncells v nx s) 25)).alloc (.cells #[.int .i64 a, .int .i64 b, .string x] 38) ∧ Gr w W ∧ NB W w.heap.size v nx s ∧
    W.cell? ⟨w.heap.size + 1, 0, none⟩ = some (.int .i64 a) ∧ W.cell? ⟨w.heap.size + 1, 1, none⟩ = some (.int .i64 b) ∧ W.cell? ⟨w.heap.size + 1, 2, none⟩ = some (.string x) ∧ W.heap.size = w.heap.size + 1 + 1 :=
  ⟨_, rfl, (gr_box w _).alloc _, (NB.new w v nx s).gr (gr_box _ _), by simp, by simp, by simp, by simp⟩
theorem len_less (n : Nat) (hn : n < 1024) : IntKind.i64.wrap (((n + 1 : Nat) : Int) - 1) = (n : Int) := by
  rw [show ((n + 1 : Nat) : Int) - 1 = (n : Int) by omega]
  exact IntWalk.i64_in _ ⟨by omega, by omega⟩

set_option maxRecDepth 100000 in
set_option maxHeartbeats 4000000 in
theorem wireTwice_any (v : Value) (L : List P) (nx : Int) (s : Nat → Int) (k a b : Int) (x : ByteArray) (w : World) (hv : PV w v L) (hf : Fit L) (hx : x.size ≤ 9223372036854775807) :
    Calls Try.prog 4 #[.agg (ncells v nx s), .int .i64 k, .agg #[.int .i64 a, .int .i64 b, .string x]] w fun e w' => e = .returned (.bool true) ∧ Gr w w' := by
  obtain ⟨A, c, hva, hc1, ⟨hc2, -⟩, -⟩ := id hv
  unfold maxLen at hc2
  obtain ⟨n, hn⟩ : ∃ n, n = L.length := ⟨_, rfl⟩
  have HN := Lib.hid hn
  rw [← hn] at hva hc1
  subst hva
  have HV := Lib.hid hv
  have HFT := Lib.hid hf
  obtain ⟨W, hW, hG, hB0, hs0, hs1, hs2, hz⟩ := boxesNS (.slice A n c) nx s a b x w
  have HAW := Lib.hid (fun w => awake_any w)
  have HTW := Lib.hid (fun wq (q : Gr w wq) => twice_all (.slice A n c) L nx s k wq (hv.gr q) hf)
  have HSD := Lib.hid (fun wq (q : Gr w wq) => send_all (.slice A n c) L nx s a b x wq (hv.gr q) hf hx)
  have HNB0 := Lib.hid hB0
  have HSB0 : Hid (W.cell? ⟨w.heap.size + 1, 0, none⟩ = some (.int .i64 a) ∧ W.cell? ⟨w.heap.size + 1, 1, none⟩ = some (.int .i64 b) ∧ W.cell? ⟨w.heap.size + 1, 2, none⟩ = some (.string x)) := Lib.hid ⟨hs0, hs1, hs2⟩
  have HG := Lib.hid hG
  have hz0 : w.heap.size < W.heap.size := by omega
  have hz1 : w.heap.size + 1 + 1 ≤ W.heap.size := by omega
  clear hv hf hn hG hB0 hs0 hs1 hs2 hz
  go_enter Try.func4, Try.ntmps4
  go_upto_region 1 with (fail)
  rw [← hW]
  clear hW
  go_wp2_with fail
  refine (HAW.out _).mono ?_
  rintro e w1 ⟨rfl, g1⟩
  have HNB1 := Lib.hid (HNB0.out.gr g1)
  have HSB1 : Hid (w1.cell? ⟨w.heap.size + 1, 0, none⟩ = some (.int .i64 a) ∧ w1.cell? ⟨w.heap.size + 1, 1, none⟩ = some (.int .i64 b) ∧ w1.cell? ⟨w.heap.size + 1, 2, none⟩ = some (.string x)) := Lib.hid ⟨g1.cell HSB0.out.1, g1.cell HSB0.out.2.1, g1.cell HSB0.out.2.2⟩
  have HG1 := Lib.hid (HG.out.trans g1)
  have HGW1 := Lib.hid g1
  clear g1
  obtain ⟨a0, a1, a2, a3, a4, a5, a6, a7, a8, a9⟩ := HNB1.out
  go_wp2_with fail
  clear a0 a1 a2 a3 a4 a5 a6 a7 a8 a9
  refine (HTW.out _ HG1.out).mono ?_
  rintro e w2 ⟨Lt, nt, st, et, ⟨v2, rfl, hown2, g2⟩, hc2'⟩
  obtain ⟨A2, c2, hv2, -, hcb2⟩ := hown2.form
  obtain ⟨n2, hn2⟩ : ∃ m, m = Lt.length := ⟨_, rfl⟩
  rw [← hn2] at hv2
  subst hv2
  have HN2 := Lib.hid hn2
  obtain ⟨W3, hW3, G3, hB3, hF3⟩ : ∃ W3, W3 = w2.alloc (.cells (ncells (.slice A2 n2 c2) nt st) 25) ∧ Gr w2 W3 ∧ NB W3 w2.heap.size (.slice A2 n2 c2) nt st ∧ NF W3 w2.heap.size := ⟨_, rfl, gr_box _ _, NB.new _ _ _ _, NF.new _ _ _ _⟩
  obtain ⟨b7, hb7⟩ : ∃ b, b = w2.heap.size := ⟨_, rfl⟩
  have hlt7 : w.heap.size + 1 < b7 := by rw [hb7]; have := HGW1.out.size; have := g2.size; omega
  rw [← hb7] at hB3 hF3
  have HB7 := Lib.hid hB3
  have HF7 := Lib.hid hF3
  have HNBx := Lib.hid (HNB1.out.gr (g2.trans G3))
  have HSBx : Hid (W3.cell? ⟨w.heap.size + 1, 0, none⟩ = some (.int .i64 a) ∧ W3.cell? ⟨w.heap.size + 1, 1, none⟩ = some (.int .i64 b) ∧ W3.cell? ⟨w.heap.size + 1, 2, none⟩ = some (.string x)) := Lib.hid ⟨(g2.trans G3).cell HSB1.out.1, (g2.trans G3).cell HSB1.out.2.1, (g2.trans G3).cell HSB1.out.2.2⟩
  have HGx := Lib.hid ((HG1.out.trans g2).trans G3)
  have HGX := Lib.hid ((HGW1.out.trans g2).trans G3)
  have HO2 := Lib.hid (hown2.gr G3)
  have HW3 := Lib.hid hW3
  have HB7e := Lib.hid hb7
  clear hB3 hF3 hown2 g2 G3 hW3 hn2 hb7
  rcases hc2' with ⟨rfl, rfl, rfl, ⟨p, hp⟩, hfit, hlen⟩ | hne
  · have hn2 : n2 = n + 1 := by rw [HN2.out, hp, List.length_append, List.length_singleton, ← HN.out]
    subst hn2
    have HLo := Lib.hid (fun wq (q : Gr W3 wq) => lose_yes (.slice A2 (n + 1) c2) Lt nx s n (by rw [← HN2.out]; exact Nat.lt_succ_self _) wq (HO2.out.gr q).pv hfit (by rw [← HN2.out]; have := HN.out; omega))
    have hls : less Lt n = L := by rw [hp, HN.out]; exact less_snoc L p
    rw [hls] at HLo
    have hll := len_less n (by rw [HN.out]; exact hlen)
    clear hp hfit hlen hls
    go_upto_region 4 with (fail)
    rw [← HB7e.out, ← HW3.out]
    obtain ⟨a0, a1, a2, a3, a4, a5, a6, a7, a8, a9⟩ := HB7.out
    go_wp2_with fail
    clear a0 a1 a2 a3 a4 a5 a6 a7 a8 a9 hll
    refine (HLo.out _ (Gr.refl _)).mono ?_
    rintro e w4 ⟨v4, rfl, hown4, g4⟩
    obtain ⟨A4, c4, hv4, -, -⟩ := hown4.form
    rw [← HN.out] at hv4
    subst hv4
    obtain ⟨W5, hW5, G5, hB5⟩ : ∃ W5, W5 = w4.alloc (.cells (ncells (.slice A4 n c4) nx s) 25) ∧ Gr w4 W5 ∧ NB W5 w4.heap.size (.slice A4 n c4) nx s := ⟨_, rfl, gr_box _ _, NB.new _ _ _ _⟩
    have HSM := Lib.hid (same_yes (.slice A4 n c4) (.slice A n c) L nx s W5 (hown4.gr G5).pv (HV.out.gr ((HGx.out.trans g4).trans G5)))
    have HN5 := Lib.hid (HNBx.out.gr (g4.trans G5))
    have HG45 := Lib.hid (g4.trans G5)
    have HW5 := Lib.hid hW5
    clear hown4 g4 G5 hW5
    go_upto_region 6 with (fail)
    rw [← HW5.out]
    obtain ⟨a0, a1, a2, a3, a4, a5, a6, a7, a8, a9⟩ := hB5
    obtain ⟨b0, b1, b2, b3, b4, b5, b6, b7', b8, b9⟩ := HN5.out
    go_wp2_with fail
    clear a0 a1 a2 a3 a4 a5 a6 a7 a8 a9 b0 b1 b2 b3 b4 b5 b6 b7' b8 b9
    refine HSM.out.mono ?_
    rintro e X ⟨rfl, g6⟩
    have gX := HG45.out.trans g6
    have HB7 := Lib.hid (HB7.out.gr gX)
    have HF7 := Lib.hid (HF7.out.gr gX)
    have HNBx := Lib.hid (HNBx.out.gr gX)
    have HSBx : Hid (X.cell? ⟨w.heap.size + 1, 0, none⟩ = some (.int .i64 a) ∧ X.cell? ⟨w.heap.size + 1, 1, none⟩ = some (.int .i64 b) ∧ X.cell? ⟨w.heap.size + 1, 2, none⟩ = some (.string x)) := Lib.hid ⟨gX.cell HSBx.out.1, gX.cell HSBx.out.2.1, gX.cell HSBx.out.2.2⟩
    have HGx := Lib.hid (HGx.out.trans gX)
    have HGX := Lib.hid (HGX.out.trans gX)
    clear gX g6
    have h8 := HNBx.out
    obtain ⟨a0, a1, a2, a3, a4, a5, a6, a7, a8, a9⟩ := h8
    have s0 := HSBx.out.1
    have s1 := HSBx.out.2.1
    have s2 := HSBx.out.2.2
    go_wp2_with fail
    refine (HSD.out _ HGx.out).mono ?_
    rintro e w5 ⟨Lr, nr, sr, er, ⟨v5, rfl, hown5, g5⟩, hc5⟩
    clear a0 a1 a2 a3 a4 a5 a6 a7 a8 a9 s0 s1 s2
    obtain ⟨A5, c5, hv5, hc5a, hc5b⟩ := hown5.form
    obtain ⟨n5, hn5⟩ : ∃ m, m = Lr.length := ⟨_, rfl⟩
    rw [← hn5] at hv5 hc5a
    subst hv5
    have HN5 := Lib.hid hn5
    obtain ⟨a0, a1, a2, a3, a4, a5, a6, a7, a8, a9⟩ := HB7.out.gr g5
    obtain ⟨-, x0, x1, x2, x3, x4, x5, x6, x7, x8, x9⟩ := HF7.out.gr g5
    obtain ⟨X6, hX6⟩ : ∃ X6, X6 = put10 w5 b7 (.slice A5 n5 c5) (.int .i64 nr) (.int .i64 (sr 0)) (.int .i64 (sr 1)) (.int .i64 (sr 2)) (.int .i64 (sr 3)) (.int .i64 (sr 4)) (.int .i64 (sr 5)) (.int .i64 (sr 6)) (.int .i64 (sr 7)) := ⟨_, rfl⟩
    have hb6 : NB X6 b7 (.slice A5 n5 c5) nr sr := by rw [hX6]; exact NB.put (HB7.out.gr g5) _ _ _
    have hn6 : NB X6 w.heap.size (.slice A n c) nx s := by rw [hX6]; exact NB.far10 (b := b7) (HNBx.out.gr g5) (by omega) _ _ _ _ _ _ _ _ _ _
    have hg6 : Gr w X6 := by rw [hX6]; exact below_put10 (HGx.out.trans g5) (by omega) _ _ _ _ _ _ _ _ _ _
    have ho6 : ∀ hb : b7 < X.heap.size, PO X6 (b7 + 1) (.slice A5 n5 c5) Lr := fun hb => by rw [hX6]; exact own_put10 (own_le hown5 (by omega)) (Nat.lt_succ_self _) _ _ _ _ _ _ _ _ _ _
    have HB6 := Lib.hid hb6
    have HN6 := Lib.hid hn6
    have HG6 := Lib.hid hg6
    have HG6s : Hid (W.heap.size ≤ X6.heap.size) := Lib.hid (by rw [hX6, hs10]; exact Nat.le_trans HGX.out.size g5.size)
    have HO6 := Lib.hid (ho6 HF7.out.1)
    have HX6 := Lib.hid hX6
    clear hb6 hn6 hg6 ho6 hX6 hn5 hown5 g5
    rcases hc5 with ⟨rfl, rfl, ⟨p, hp⟩, hfit, hlen⟩ | ⟨hne, hnil⟩
    · have hn5 : n5 = n + 1 := by rw [HN5.out, hp, List.length_append, List.length_singleton, ← HN.out]
      subst hn5
      have HLo := Lib.hid (fun wq (q : Gr X6 wq) => lose_yes (.slice A5 (n + 1) c5) Lr nr s n (by rw [← HN5.out]; exact Nat.lt_succ_self _) wq (HO6.out.gr q).pv hfit (by rw [← HN5.out]; have := HN.out; omega))
      have hls : less Lr n = L := by rw [hp, HN.out]; exact less_snoc L p
      rw [hls] at HLo
      have hll := len_less n (by rw [HN.out]; exact hlen)
      clear hp hfit hlen hls
      go_upto_region 9 with (fail)
      have hX6 := HX6.out
      unfold put10 at hX6
      rw [← hX6]
      clear hX6 a0 a1 a2 a3 a4 a5 a6 a7 a8 a9 x0 x1 x2 x3 x4 x5 x6 x7 x8 x9
      obtain ⟨a0, a1, a2, a3, a4, a5, a6, a7, a8, a9⟩ := HB6.out
      go_wp2_with fail
      clear a0 a1 a2 a3 a4 a5 a6 a7 a8 a9 hll
      refine (HLo.out _ (Gr.refl _)).mono ?_
      rintro e w7 ⟨v7, rfl, hown7, g7⟩
      obtain ⟨A7, c7, hv7, -, -⟩ := hown7.form
      rw [← HN.out] at hv7
      subst hv7
      obtain ⟨W8, hW8, G8, hB8, hF8⟩ : ∃ W8, W8 = w7.alloc (.cells (ncells (.slice A7 n c7) nr s) 25) ∧ Gr w7 W8 ∧ NB W8 w7.heap.size (.slice A7 n c7) nr s ∧ NF W8 w7.heap.size := ⟨_, rfl, gr_box _ _, NB.new _ _ _ _, NF.new _ _ _ _⟩
      have hn8 := HN6.out.gr (g7.trans G8)
      have hlt8 : w.heap.size < w7.heap.size := Nat.lt_of_lt_of_le (Nat.lt_of_lt_of_le hz0 HG6s.out) g7.size
      obtain ⟨W9, hW9⟩ : ∃ W9, W9 = W8.setCell ⟨w7.heap.size, 1, none⟩ (.int .i64 nx) := ⟨_, rfl⟩
      have hb9 : NB W9 w7.heap.size (.slice A7 n c7) nx s := by
        rw [hW9]
        obtain ⟨q0, q1, q2, q3, q4, q5, q6, q7, q8, q9⟩ := hB8
        exact ⟨setFar _ _ _ _ _ q0 (by decide), setAt _ _ _ _ q1, setFar _ _ _ _ _ q2 (by decide), setFar _ _ _ _ _ q3 (by decide), setFar _ _ _ _ _ q4 (by decide), setFar _ _ _ _ _ q5 (by decide), setFar _ _ _ _ _ q6 (by decide), setFar _ _ _ _ _ q7 (by decide), setFar _ _ _ _ _ q8 (by decide), setFar _ _ _ _ _ q9 (by decide)⟩
      have hn9 : NB W9 w.heap.size (.slice A n c) nx s := by rw [hW9]; exact NB.set hn8 (by omega) _ _
      have hg9 : Gr w W9 := by rw [hW9]; exact Below.setCell ((HG6.out.trans g7).trans G8) (show w.heap.size ≤ w7.heap.size by omega) _
      have hp9 : PV W9 (.slice A7 n c7) L := by
        rw [hW9]
        have h := own_set_other (hown7.gr G8) (b := w7.heap.size) (fun e => by have := (World.ownsRow.lt hown7 _ e).2; omega) 1 (.int .i64 nx)
        exact PO.pv h
      have HSM := Lib.hid (fun wq (q : Gr W9 wq) => same_yes (.slice A7 n c7) (.slice A n c) L nx s wq (hp9.gr q) (HV.out.gr (hg9.trans q)))
      have n1 := hn8.2.1
      have m1 := hB8.2.1
      have f1 := hF8.2.2.1
      have HB9 := Lib.hid hb9
      have HN9 := Lib.hid hn9
      have HG9 := Lib.hid hg9
      have HW8 := Lib.hid hW8
      have HW9 := Lib.hid hW9
      clear hW8 hW9 hb9 hn9 hg9 hp9 G8 hB8 hF8 hn8 hown7 g7
      go_upto_region 12 with (fail)
      rw [← HW8.out]
      go_upto_region 13 with (fail)
      rw [← HW9.out]
      clear n1 m1 f1
      obtain ⟨a0, a1, a2, a3, a4, a5, a6, a7, a8, a9⟩ := HB9.out
      obtain ⟨b0, b1, b2, b3, b4, b5, b6, b7, b8, b9⟩ := HN9.out
      go_wp2_with fail
      clear a0 a1 a2 a3 a4 a5 a6 a7 a8 a9 b0 b1 b2 b3 b4 b5 b6 b7 b8 b9
      refine (HSM.out _ (Gr.refl _)).mono ?_
      rintro e w10 ⟨rfl, g10⟩
      go_wp2_with fail
      go_ret
      exact ⟨rfl, HG9.out.trans g10⟩
    · have hn5 : n5 = 0 := by rw [HN5.out, hnil]; rfl
      subst hn5
      have hbe : (er == 0) = false := by simpa using hne
      go_upto_region 9 with (fail)
      have hX6 := HX6.out
      unfold put10 at hX6
      rw [← hX6]
      clear hX6 a0 a1 a2 a3 a4 a5 a6 a7 a8 a9 x0 x1 x2 x3 x4 x5 x6 x7 x8 x9
      have a0 := HB6.out.1
      go_wp2
      go_ret
      exact ⟨rfl, HG6.out⟩
  · have hbe : (et == 0) = false := by simpa using hne
    go_upto_region 4 with (fail)
    rw [← HB7e.out, ← HW3.out]
    obtain ⟨X, hX⟩ : ∃ X, X = W3 := ⟨_, rfl⟩
    rw [← hX] at HB7 HF7 HNBx HSBx HGx HGX ⊢
    clear hX
    have h8 := HNBx.out
    obtain ⟨a0, a1, a2, a3, a4, a5, a6, a7, a8, a9⟩ := h8
    have s0 := HSBx.out.1
    have s1 := HSBx.out.2.1
    have s2 := HSBx.out.2.2
    go_wp2_with fail
    refine (HSD.out _ HGx.out).mono ?_
    rintro e w5 ⟨Lr, nr, sr, er, ⟨v5, rfl, hown5, g5⟩, hc5⟩
    clear a0 a1 a2 a3 a4 a5 a6 a7 a8 a9 s0 s1 s2
    obtain ⟨A5, c5, hv5, hc5a, hc5b⟩ := hown5.form
    obtain ⟨n5, hn5⟩ : ∃ m, m = Lr.length := ⟨_, rfl⟩
    rw [← hn5] at hv5 hc5a
    subst hv5
    have HN5 := Lib.hid hn5
    obtain ⟨a0, a1, a2, a3, a4, a5, a6, a7, a8, a9⟩ := HB7.out.gr g5
    obtain ⟨-, x0, x1, x2, x3, x4, x5, x6, x7, x8, x9⟩ := HF7.out.gr g5
    obtain ⟨X6, hX6⟩ : ∃ X6, X6 = put10 w5 b7 (.slice A5 n5 c5) (.int .i64 nr) (.int .i64 (sr 0)) (.int .i64 (sr 1)) (.int .i64 (sr 2)) (.int .i64 (sr 3)) (.int .i64 (sr 4)) (.int .i64 (sr 5)) (.int .i64 (sr 6)) (.int .i64 (sr 7)) := ⟨_, rfl⟩
    have hb6 : NB X6 b7 (.slice A5 n5 c5) nr sr := by rw [hX6]; exact NB.put (HB7.out.gr g5) _ _ _
    have hn6 : NB X6 w.heap.size (.slice A n c) nx s := by rw [hX6]; exact NB.far10 (b := b7) (HNBx.out.gr g5) (by omega) _ _ _ _ _ _ _ _ _ _
    have hg6 : Gr w X6 := by rw [hX6]; exact below_put10 (HGx.out.trans g5) (by omega) _ _ _ _ _ _ _ _ _ _
    have ho6 : ∀ hb : b7 < X.heap.size, PO X6 (b7 + 1) (.slice A5 n5 c5) Lr := fun hb => by rw [hX6]; exact own_put10 (own_le hown5 (by omega)) (Nat.lt_succ_self _) _ _ _ _ _ _ _ _ _ _
    have HB6 := Lib.hid hb6
    have HN6 := Lib.hid hn6
    have HG6 := Lib.hid hg6
    have HG6s : Hid (W.heap.size ≤ X6.heap.size) := Lib.hid (by rw [hX6, hs10]; exact Nat.le_trans HGX.out.size g5.size)
    have HO6 := Lib.hid (ho6 HF7.out.1)
    have HX6 := Lib.hid hX6
    clear hb6 hn6 hg6 ho6 hX6 hn5 hown5 g5
    rcases hc5 with ⟨rfl, rfl, ⟨p, hp⟩, hfit, hlen⟩ | ⟨hne, hnil⟩
    · have hn5 : n5 = n + 1 := by rw [HN5.out, hp, List.length_append, List.length_singleton, ← HN.out]
      subst hn5
      have HLo := Lib.hid (fun wq (q : Gr X6 wq) => lose_yes (.slice A5 (n + 1) c5) Lr nr s n (by rw [← HN5.out]; exact Nat.lt_succ_self _) wq (HO6.out.gr q).pv hfit (by rw [← HN5.out]; have := HN.out; omega))
      have hls : less Lr n = L := by rw [hp, HN.out]; exact less_snoc L p
      rw [hls] at HLo
      have hll := len_less n (by rw [HN.out]; exact hlen)
      clear hp hfit hlen hls
      go_upto_region 9 with (fail)
      have hX6 := HX6.out
      unfold put10 at hX6
      rw [← hX6]
      clear hX6 a0 a1 a2 a3 a4 a5 a6 a7 a8 a9 x0 x1 x2 x3 x4 x5 x6 x7 x8 x9
      obtain ⟨a0, a1, a2, a3, a4, a5, a6, a7, a8, a9⟩ := HB6.out
      go_wp2_with fail
      clear a0 a1 a2 a3 a4 a5 a6 a7 a8 a9 hll
      refine (HLo.out _ (Gr.refl _)).mono ?_
      rintro e w7 ⟨v7, rfl, hown7, g7⟩
      obtain ⟨A7, c7, hv7, -, -⟩ := hown7.form
      rw [← HN.out] at hv7
      subst hv7
      obtain ⟨W8, hW8, G8, hB8, hF8⟩ : ∃ W8, W8 = w7.alloc (.cells (ncells (.slice A7 n c7) nr s) 25) ∧ Gr w7 W8 ∧ NB W8 w7.heap.size (.slice A7 n c7) nr s ∧ NF W8 w7.heap.size := ⟨_, rfl, gr_box _ _, NB.new _ _ _ _, NF.new _ _ _ _⟩
      have hn8 := HN6.out.gr (g7.trans G8)
      have hlt8 : w.heap.size < w7.heap.size := Nat.lt_of_lt_of_le (Nat.lt_of_lt_of_le hz0 HG6s.out) g7.size
      obtain ⟨W9, hW9⟩ : ∃ W9, W9 = W8.setCell ⟨w7.heap.size, 1, none⟩ (.int .i64 nx) := ⟨_, rfl⟩
      have hb9 : NB W9 w7.heap.size (.slice A7 n c7) nx s := by
        rw [hW9]
        obtain ⟨q0, q1, q2, q3, q4, q5, q6, q7, q8, q9⟩ := hB8
        exact ⟨setFar _ _ _ _ _ q0 (by decide), setAt _ _ _ _ q1, setFar _ _ _ _ _ q2 (by decide), setFar _ _ _ _ _ q3 (by decide), setFar _ _ _ _ _ q4 (by decide), setFar _ _ _ _ _ q5 (by decide), setFar _ _ _ _ _ q6 (by decide), setFar _ _ _ _ _ q7 (by decide), setFar _ _ _ _ _ q8 (by decide), setFar _ _ _ _ _ q9 (by decide)⟩
      have hn9 : NB W9 w.heap.size (.slice A n c) nx s := by rw [hW9]; exact NB.set hn8 (by omega) _ _
      have hg9 : Gr w W9 := by rw [hW9]; exact Below.setCell ((HG6.out.trans g7).trans G8) (show w.heap.size ≤ w7.heap.size by omega) _
      have hp9 : PV W9 (.slice A7 n c7) L := by
        rw [hW9]
        have h := own_set_other (hown7.gr G8) (b := w7.heap.size) (fun e => by have := (World.ownsRow.lt hown7 _ e).2; omega) 1 (.int .i64 nx)
        exact PO.pv h
      have HSM := Lib.hid (fun wq (q : Gr W9 wq) => same_yes (.slice A7 n c7) (.slice A n c) L nx s wq (hp9.gr q) (HV.out.gr (hg9.trans q)))
      have n1 := hn8.2.1
      have m1 := hB8.2.1
      have f1 := hF8.2.2.1
      have HB9 := Lib.hid hb9
      have HN9 := Lib.hid hn9
      have HG9 := Lib.hid hg9
      have HW8 := Lib.hid hW8
      have HW9 := Lib.hid hW9
      clear hW8 hW9 hb9 hn9 hg9 hp9 G8 hB8 hF8 hn8 hown7 g7
      go_upto_region 12 with (fail)
      rw [← HW8.out]
      go_upto_region 13 with (fail)
      rw [← HW9.out]
      clear n1 m1 f1
      obtain ⟨a0, a1, a2, a3, a4, a5, a6, a7, a8, a9⟩ := HB9.out
      obtain ⟨b0, b1, b2, b3, b4, b5, b6, b7, b8, b9⟩ := HN9.out
      go_wp2_with fail
      clear a0 a1 a2 a3 a4 a5 a6 a7 a8 a9 b0 b1 b2 b3 b4 b5 b6 b7 b8 b9
      refine (HSM.out _ (Gr.refl _)).mono ?_
      rintro e w10 ⟨rfl, g10⟩
      go_wp2_with fail
      go_ret
      exact ⟨rfl, HG9.out.trans g10⟩
    · have hn5 : n5 = 0 := by rw [HN5.out, hnil]; rfl
      subst hn5
      have hbe : (er == 0) = false := by simpa using hne
      go_upto_region 9 with (fail)
      have hX6 := HX6.out
      unfold put10 at hX6
      rw [← hX6]
      clear hX6 a0 a1 a2 a3 a4 a5 a6 a7 a8 a9 x0 x1 x2 x3 x4 x5 x6 x7 x8 x9
      have a0 := HB6.out.1
      go_wp2
      go_ret
      exact ⟨rfl, HG6.out⟩
end Go.Proofs.Ytfmfeokjnkbpeaa.Wi
