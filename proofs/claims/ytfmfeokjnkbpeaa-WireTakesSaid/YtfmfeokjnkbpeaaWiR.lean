/- Walks: the mark is kept; the laws' waking. -/
import Derived.Test.YtfmfeokjnkbpeaaWiQ
import Derived.Test.YtfmfeokjnkbpeaaWiK
namespace Go.Proofs.Ytfmfeokjnkbpeaa.Wi
open Go.RowKit
set_option linter.unusedSimpArgs false

set_option maxRecDepth 100000 in
set_option maxHeartbeats 4000000 in
theorem kept_any (v v2 : Value) (L : List P) (nx : Int) (s : Nat → Int) (B : Nat) (w : World) (hm : MO w B v L) (hv : PV w v2 L) :
    Calls Try.prog 13 #[.agg (ncells v nx s), .agg (ncells v2 nx s)] w fun e w' => e = .returned (.bool true) ∧ Gr w w' := by
  obtain ⟨g, c, hva, hr⟩ := id hm
  obtain ⟨A2, c2, hv2, h2c, ⟨h2m, -⟩, -⟩ := id hv
  unfold maxLen at h2m
  obtain ⟨n, hn⟩ : ∃ n, n = L.length := ⟨_, rfl⟩
  have HN := Lib.hid hn
  rw [← hn] at hva hv2
  subst hva hv2
  obtain ⟨hmk, hc1, hc63⟩ := hm.mark
  rw [← hn] at hmk hc1
  obtain ⟨W, hW, hG, hNA, hNB, hz⟩ := boxes2N (.slice (some ⟨g, 0, none⟩) n c) (.slice A2 n c2) nx s w
  have HS : Hid (NB W.drew w.heap.size (.slice (some ⟨g, 0, none⟩) n c) nx s ∧ NB W.drew (w.heap.size + 1) (.slice A2 n c2) nx s ∧ W.drew.cell? ⟨g, n * 4, none⟩ = some (.int .i64 (-7)) ∧ Gr w W.drew) :=
    Lib.hid ⟨hNA.gr (Gr.refl _).drew, hNB.gr (Gr.refl _).drew, (Gr.refl W).drew.cell (hG.cell hmk), hG.drew⟩
  have HC := Lib.hid (fun wq (q : Gr w wq) => same_yes (.slice (some ⟨g, 0, none⟩) n c) (.slice A2 n c2) L nx s wq (hm.po.pv.gr q) (hv.gr q))
  have hsl := slice_to_g _ 4 elemPacket sizePacket n c (n + 1) (by omega) (some ⟨g, 0, none⟩)
  rw [show (((n + 1 : Nat) : Int)) = (n : Int) + 1 by omega] at hsl
  have e1 : IntKind.i64.wrap ((n : Int) + 1) = (n : Int) + 1 := IntWalk.i64_in _ ⟨by omega, by omega⟩
  have i0 : (0 : Int) ≤ (n : Int) := by omega
  have i1 : (n : Int) < (n : Int) + 1 := by omega
  have i2 : (n : Int) < ((n + 1 : Nat) : Int) := by omega
  clear hm hr hv hmk hG hNA hNB hz hn
  go_enter Try.func13, Try.ntmps13
  go_upto_region 1 with (fail)
  rw [← hW]
  clear hW
  refine qRegion (fun w' => NB w' w.heap.size (.slice (some ⟨g, 0, none⟩) n c) nx s ∧ NB w' (w.heap.size + 1) (.slice A2 n c2) nx s ∧ w'.cell? ⟨g, n * 4, none⟩ = some (.int .i64 (-7)) ∧ Gr w w') (by kernel_rfl) (by kernel_rfl) HS.out ?_
  iterate 2
    refine qTake (by kernel_rfl) ?_
    apply Exists.intro
    refine ⟨fun wq hq => ?_, ?_⟩
    · go_light
      obtain ⟨⟨h0, h1, h2, h3, h4, h5, h6, h7, h8, h9⟩, ⟨q0, q1, q2, q3, q4, q5, q6, q7, q8, q9⟩, hmk, -⟩ := hq
      go_simp
      try with_reducible rfl
      done
    try simp only [Act.put, List.setIfInBounds_toArray, List.set_cons_zero, List.set_cons_succ]
  refine qCall (by kernel_rfl) ?_
  apply Exists.intro
  refine ⟨?_, ?_⟩
  · apply Exists.intro
    apply Exists.intro
    refine ⟨fun wq => ?_, fun wq hq => ?_⟩
    · go_light
      go_simp
      exact ⟨rfl, rfl⟩
    · exact (HC.out wq hq.2.2.2).mono fun e w2 h => ⟨h.1, NB.gr hq.1 h.2, NB.gr hq.2.1 h.2, Gr.cell h.2 hq.2.2.1, Gr.trans hq.2.2.2 h.2⟩
  try simp only [Act.put, List.setIfInBounds_toArray, List.set_cons_zero, List.set_cons_succ]
  iterate 17
    refine qTake (by kernel_rfl) ?_
    apply Exists.intro
    refine ⟨fun wq hq => ?_, ?_⟩
    · go_light
      obtain ⟨⟨h0, h1, h2, h3, h4, h5, h6, h7, h8, h9⟩, ⟨q0, q1, q2, q3, q4, q5, q6, q7, q8, q9⟩, hmk, -⟩ := hq
      go_simp
      try with_reducible rfl
      done
    try simp only [Act.put, List.setIfInBounds_toArray, List.set_cons_zero, List.set_cons_succ]
  refine qNil ?_
  intro w3 hC
  have HG := Lib.hid hC.2.2.2
  clear hC
  go_wp2
  go_ret
  exact ⟨rfl, HG.out⟩

def pA : P := ⟨5, 0, 1, ⟨#[97]⟩⟩
theorem thrA : thr zs pA = true := by decide
set_option maxRecDepth 100000 in
set_option maxHeartbeats 4000000 in
theorem awake_any (w : World) : Calls Try.prog 6 #[] w fun e w' => e = .returned (.bool true) ∧ Gr w w' := by
  have HS := Lib.hid (send_ok (.slice none 0 0) [] 5 zs 0 1 ⟨#[97]⟩ w (PV.nil w) (by decide) (by decide) (by decide) (by decide) (fun p hp => by cases hp))
  have HT : Hid (∀ (v : Value) (w1 : World) (B : Nat), PO w1 B v [pA] → Calls Try.prog 10 #[.agg (ncells v 6 zs), .int .i64 0] w1 fun e w' => RetTake [] 6 zs pA 0 w1 e w') := Lib.hid (fun v w1 B h => by
    have h := take_yes v [pA] 6 zs 0 (Nat.zero_lt_one) thrA w1 h.pv (fun p hp => by rw [List.mem_singleton.1 hp]; decide) (by decide)
    exact h)
  go_enter Try.func6, Try.ntmps6
  go_wp2_with fail
  refine HS.out.mono ?_
  rintro e w1 ⟨v1, rfl, hown, g1⟩
  have hown : PO w1 w.heap.size v1 [pA] := hown
  obtain ⟨A1, c1, hv1, -, -⟩ := hown.form
  have hv1 : v1 = .slice A1 1 c1 := hv1
  subst hv1
  have e6 : wrap64 (5 + 1) = 6 := by kernel_rfl
  rw [e6]
  obtain ⟨W2, hW2, G2, hNB⟩ : ∃ W2, W2 = w1.alloc (.cells (ncells (.slice A1 1 c1) 6 zs) 25) ∧ Gr w1 W2 ∧ NB W2 w1.heap.size (.slice A1 1 c1) 6 zs := ⟨_, rfl, gr_box _ _, NB.new _ _ _ _⟩
  have HT2 := Lib.hid (HT.out (.slice A1 1 c1) W2 w.heap.size (hown.gr G2))
  have HG2 := Lib.hid (g1.trans G2)
  have HNB := Lib.hid hNB
  have HW2 := Lib.hid hW2
  have n0 := hNB.1
  clear hown g1 G2 hNB hW2 HS HT e6
  go_wp2_with fail
  rw [← HW2.out]
  refine HT2.out.mono ?_
  rintro e w3 ⟨v3, rfl, hown3, g3⟩
  obtain ⟨A3, c3, hv3, -, -⟩ := hown3.form
  have hv3 : v3 = .slice A3 0 c3 := hv3
  subst hv3
  rw [show pcells pA = #[.int .i64 5, .int .i64 0, .int .i64 1, .string ⟨#[97]⟩] from rfl]
  obtain ⟨W5, hW5, G5, hP⟩ : ∃ W5, W5 = (w3.alloc (.cells (ncells (.slice A3 0 c3) 6 zs) 25)).alloc (.cells #[.int .i64 5, .int .i64 0, .int .i64 1, .string ⟨#[97]⟩] 31) ∧ Gr w3 W5 ∧ PB W5 (w3.heap.size + 1) pA := by
    have h := PB.new (w3.alloc (.cells (ncells (.slice A3 0 c3) 6 zs) 25)) pA
    rw [show (w3.alloc (.cells (ncells (.slice A3 0 c3) 6 zs) 25)).heap.size = w3.heap.size + 1 by simp] at h
    exact ⟨_, rfl, (gr_box _ _).alloc _, h⟩
  have n1 := ((HNB.out.gr g3).gr G5).2.1
  have p0 : W5.cell? ⟨w3.heap.size + 1, 0, none⟩ = some (.int .i64 5) := hP.1
  have p3 : W5.cell? ⟨w3.heap.size + 1, 3, none⟩ = some (.string ⟨#[97]⟩) := hP.2.2.2
  have HG3 := Lib.hid ((HG2.out.trans g3).trans G5)
  have HW5 := Lib.hid hW5
  clear hown3 g3 n0 G5 hP hW5
  go_upto_region 3 with (fail)
  rw [← HW5.out]
  go_wp2
  go_ret
  exact ⟨rfl, HG3.out⟩
end Go.Proofs.Ytfmfeokjnkbpeaa.Wi
