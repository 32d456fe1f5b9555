/- Walks: rule's among. -/
import Derived.Test.YtnjmgknicffcbaaGreatDoorZb28
import Derived.Test.YtnjmgknicffcbaaGreatDoorZb30
import Derived.Test.YtnjmgknicffcbaaGreatDoorZb39
namespace Go.Proofs.YtnjmgknicffcbaaGreatDoor
open Go.RowKit Go.Joins
set_option linter.unusedSimpArgs false
set_option linter.unusedVariables false

set_option maxRecDepth 100000 in
theorem among1_any (s : ByteArray) (a : Nat) (v : Value) (G : List ByteArray) (w : World) (ha : w.cell? ⟨a, 0, none⟩ = some v) (hv : SV w v G) (hr : RisingS G) (hlen : G.length < 4611686018427387904) :
    Calls Tryz.prog 141 #[.string s, .pointer (some ⟨a, 0, none⟩)] w fun e w' => e = .returned (.bool (!memS G s)) ∧ Gr w w' := by
  have HB := Lib.hid (binS_any v G s w hv hr hlen)
  obtain ⟨A, c, hva, -⟩ := hv
  subst hva
  obtain ⟨n, hn⟩ : ∃ n, n = G.length := ⟨_, rfl⟩
  rw [← hn] at HB ha
  obtain ⟨b, hb⟩ : ∃ b, b = memS G s := ⟨_, rfl⟩
  rw [← hb] at HB ⊢
  clear hr hlen hn hb
  go_enter Tryz.func141, Tryz.ntmps141
  go_wp2_with fail
  refine HB.out.mono ?_
  rintro e w1 ⟨i, rfl, g1⟩
  go_wp2_with fail
  go_ret
  exact ⟨rfl, g1⟩
theorem egAmong : ∀ args w, (callFunc 141 args).run Tryz.prog w = .ok (.enter 141 args) w := fun args w => by kernel_rfl
theorem pcsI_any (p : ByteArray → Bool) (L : List ByteArray) : decide (0 ≤ pcsI p L) = L.any p := by
  unfold pcsI
  by_cases h : L.findIdx p < L.length
  · rw [if_pos h, decide_eq_true (by omega)]
    exact (List.any_eq_true.2 ⟨L[L.findIdx p], List.getElem_mem h, List.findIdx_getElem (w := h)⟩).symm
  · rw [if_neg h, decide_eq_false (by omega)]
    symm
    rw [Bool.eq_false_iff]
    intro k
    obtain ⟨x, hx, hp⟩ := List.any_eq_true.1 k
    exact h (List.findIdx_lt_length_of_exists ⟨x, hx, hp⟩)
set_option maxRecDepth 100000 in
theorem containsS_any (v : Value) (L : List ByteArray) (F a B : Nat) (p : ByteArray → Bool) (C : World → Prop) (w : World) (hv : SV w v L) (hp : PrS F a B p C L) (hc : C w) :
    Calls Tryz.prog 140 #[v, .func (.func F) #[] #[.pointer (some ⟨a, 0, none⟩)]] w fun e w' => e = .returned (.bool (L.any p)) ∧ Gr w w' := by
  have H := Lib.hid (indexS_any v L F a B p C w hv hp hc)
  have HE := Lib.hid (pcsI_any p L)
  obtain ⟨A, c, hva, -⟩ := hv
  subst hva
  obtain ⟨n, hn⟩ : ∃ n, n = L.length := ⟨_, rfl⟩
  rw [← hn] at H ⊢
  obtain ⟨i, hi⟩ : ∃ i, i = pcsI p L := ⟨_, rfl⟩
  rw [← hi] at H HE
  rw [← HE.out]
  clear hp hc hn hi HE
  go_enter Tryz.func140, Tryz.ntmps140
  go_wp2_with fail
  refine H.out.mono ?_
  rintro e w1 ⟨rfl, g1⟩
  go_wp2_with fail
  go_ret
  exact ⟨rfl, g1⟩
set_option maxRecDepth 100000 in
theorem ramong_any (v1 v2 : Value) (E G : List ByteArray) (w : World) (h1 : SV w v1 E) (h2 : SV w v2 G) (hr : RisingS G) (hlen : G.length < 4611686018427387904) :
    Calls Tryz.prog 99 #[v1, v2] w fun e w' => e = .returned (.bool (E.all fun x => memS G x)) ∧ Gr w w' := by
  obtain ⟨W, hW, hg, hc⟩ : ∃ W, W = w.alloc (.cells #[v2] 93) ∧ Gr w W ∧ W.cell? ⟨w.heap.size, 0, none⟩ = some v2 := by
    refine ⟨_, rfl, (Gr.refl _).alloc _, ?_⟩
    rw [cell_of_block (heap_alloc w #[v2] 93)]
    rfl
  have H := Lib.hid (containsS_any v1 E 141 w.heap.size W.heap.size (fun x => !memS G x) (fun x => Gr W x) W (h1.gr hg)
    ⟨fun x x' g hk hkp hB => hk.trans_kp hkp hB, fun x x' hk hg => hk.trans hg, fun s _ x hk => among1_any s w.heap.size v2 G x (hk.cell hc) ((h2.gr hg).gr hk) hr hlen, egAmong⟩ (Gr.refl _))
  have HG := Lib.hid hg
  have HE : Hid ((!(E.any fun x => !memS G x)) = E.all fun x => memS G x) := Lib.hid (by rw [List.not_any_eq_all_not]; simp)
  obtain ⟨A1, c1, hv1, -⟩ := h1
  obtain ⟨A2, c2, hv2, -⟩ := h2
  subst hv1 hv2
  obtain ⟨n1, hn1⟩ : ∃ n, n = E.length := ⟨_, rfl⟩
  obtain ⟨n2, hn2⟩ : ∃ n, n = G.length := ⟨_, rfl⟩
  rw [← hn1] at H ⊢
  rw [← hn2] at hW ⊢
  rw [← HE.out]
  obtain ⟨r, hr2⟩ : ∃ r, r = E.any fun x => !memS G x := ⟨_, rfl⟩
  rw [← hr2] at H ⊢
  clear hr hlen hg hc hn1 hn2 HE hr2
  go_enter Tryz.func99, Tryz.ntmps99
  go_upto_region 1 with (fail)
  rw [← hW]
  clear hW
  go_wp2_with fail
  refine H.out.mono ?_
  rintro e w1 ⟨rfl, g1⟩
  have HG1 := Lib.hid (HG.out.trans g1)
  clear g1
  go_wp2_with fail
  go_ret
  exact ⟨rfl, HG1.out⟩
end Go.Proofs.YtnjmgknicffcbaaGreatDoor
