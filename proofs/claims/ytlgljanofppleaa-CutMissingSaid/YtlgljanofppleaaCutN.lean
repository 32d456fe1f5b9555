/- Walks: the laws' own awake. -/
import Derived.Test.YtlgljanofppleaaCutG
import Derived.Test.YtlgljanofppleaaCutC
namespace Go.Proofs.Ytlgljanofppleaa
open Go.RowKit Go.Joins

def op9 : TO := ⟨1, ⟨#[97]⟩, ⟨#[]⟩, 5⟩
def t91 : TX := ⟨0, 1, 1, fun _ => 0, [op9]⟩
def e91 : Nat → Nat | 0 => 1 | _ => 0
def t92 : TX := ⟨1, 1, 2, e91, [op9]⟩
def l91 : LG := addL nilL 0 t91
def l92 : LG := addL l91 1 t92
def c91 : Nat → Nat | 1 => 1 | _ => 0
def c92 : Nat → Nat | 0 => 1 | 1 => 1 | _ => 0
theorem add91 : addR nilL t91 = (0, l91) := by kernel_rfl
theorem add92 : addR l91 t92 = (0, l92) := by kernel_rfl
theorem clo91 : closedB l92 c91 = false := by kernel_rfl
theorem clo92 : closedB l92 c92 = true := by kernel_rfl
theorem fit91 : op9.key.size ≤ 281474976710656 ∧ op9.elem.size ≤ 281474976710656 := by decide
theorem fitT {t : TX} (h : t.ops = [op9]) : t.ops.length * 48 ≤ 140737488355328 ∧ ∀ o ∈ t.ops, o.key.size ≤ 281474976710656 ∧ o.elem.size ≤ 281474976710656 := by
  rw [h]
  refine ⟨by decide, fun o ho => ?_⟩
  simp only [List.mem_singleton] at ho
  rw [ho]
  exact fit91
theorem fitC_nil : FitC nilL := ⟨fun i _ => Nat.zero_le _, fun i t _ ht => by cases ht⟩
theorem fitC_91 : FitC l91 := fitC_add (t := t91) fitC_nil (by decide) (fitT rfl)
theorem putL8 {w : World} {b : Nat} {u : Nat → S3} (h : LBox w b u) (c : Nat → S3) : LBox (putCells w b 0 [.slice (c 0).a (c 0).n (c 0).c, .slice (c 1).a (c 1).n (c 1).c, .slice (c 2).a (c 2).n (c 2).c, .slice (c 3).a (c 3).n (c 3).c, .slice (c 4).a (c 4).n (c 4).c, .slice (c 5).a (c 5).n (c 5).c, .slice (c 6).a (c 6).n (c 6).c, .slice (c 7).a (c 7).n (c 7).c]) b c := by
  have h8 := (((((((h.set (k := 0) (by decide) (c 0).a (c 0).n (c 0).c).set (k := 1) (by decide) (c 1).a (c 1).n (c 1).c).set (k := 2) (by decide) (c 2).a (c 2).n (c 2).c).set (k := 3) (by decide) (c 3).a (c 3).n (c 3).c).set (k := 4) (by decide) (c 4).a (c 4).n (c 4).c).set (k := 5) (by decide) (c 5).a (c 5).n (c 5).c).set (k := 6) (by decide) (c 6).a (c 6).n (c 6).c).set (k := 7) (by decide) (c 7).a (c 7).n (c 7).c
  exact ⟨h8.box⟩
theorem optov (w : World) : ∃ W, W = w.alloc (.cells #[.int .i64 1, .string ⟨#[97]⟩, .string ⟨#[]⟩, .int .i64 5] 55) ∧ Gr w W ∧ TOV W (.slice (some ⟨w.heap.size, 0, none⟩) 1 1) [op9] := by
  refine ⟨_, rfl, (Gr.refl w).alloc _, some ⟨w.heap.size, 0, none⟩, 1, rfl, Nat.le_refl _, ⟨by decide, fun e => by cases e⟩, fun j hj => ?_⟩
  have : j = 0 := by simp at hj; omega
  subst this
  refine ⟨w.heap.size, 0, rfl, ?_, ?_, ?_, ?_⟩ <;> (rw [World.cell?_alloc_at _ _ _ _ rfl]; rfl)

set_option maxRecDepth 100000 in
set_option maxHeartbeats 4000000 in
theorem awake9_any (w : World) : Calls Try.prog 10 #[] w fun e w' => e = .returned (.bool true) ∧ Gr w w' := by
  obtain ⟨W, hW, hg, ho⟩ := optov w
  obtain ⟨W1, hW1, hg1, hx1⟩ := xbox W t91 (.slice (some ⟨w.heap.size, 0, none⟩) 1 1)
  have HG := Lib.hid (hg.trans hg1)
  have HO := Lib.hid (ho.gr hg1)
  have HX := Lib.hid hx1
  have hs : W.heap.size = w.heap.size + 1 := by rw [hW]; simp
  rw [hs] at hx1
  have HA1 := Lib.hid (add_any Z3 nilL t91 (.slice (some ⟨w.heap.size, 0, none⟩) 1 1) W1 (LV.nil _) fitC_nil (ho.gr hg1) (by decide) (fitT rfl))
  rw [add91] at HA1
  have HA1 : Hid (Calls Try.prog 26 #[.agg (lcells Z3), .agg (tcs t91 (.slice (some ⟨w.heap.size, 0, none⟩) 1 1))] W1 fun e w' => ∃ u', e = .returned (.tuple #[.agg (lcells u'), .int .i64 0]) ∧ LN w' W1.heap.size u' l91 ∧ Gr W1 w') := HA1
  have HS := Lib.hid hs
  obtain ⟨x0, x1, x2, x3, x4, x5, x6, x7, x8, x9, x10, x11⟩ := hx1
  clear hg hg1 ho hs
  go_enter Try.func10, Try.ntmps10
  go_upto_region 2 with (fail)
  change Code.wp Try.prog _ _ _ ((w.alloc (.cells #[.int .i64 1, .string ⟨#[97]⟩, .string ⟨#[]⟩, .int .i64 5] 55)).alloc (.cells (tcs t91 (.slice (some ⟨w.heap.size, 0, none⟩) 1 1)) 44))
  rw [← hW, ← hW1]
  clear hW hW1
  go_wp2_with fail
  refine HA1.out.mono ?_
  rintro e w2 ⟨u2, rfl, hln2, g2⟩
  clear x0 x1 x2 x3 x4 x5 x6 x7 x8 x9 x10 x11
  obtain ⟨b2, hb2⟩ : ∃ b, b = w2.heap.size := ⟨_, rfl⟩
  obtain ⟨W3, hW3, hg3, hb3⟩ : ∃ x, x = w2.alloc (.cells (lcells u2) 24) ∧ Gr w2 x ∧ LBox x b2 u2 := ⟨_, rfl, (Gr.refl _).alloc _, by rw [hb2]; exact ⟨heap_alloc _ _ _⟩⟩
  have hs3 : W3.heap.size = b2 + 1 := by rw [hW3, hb2]; simp
  have HG3 := Lib.hid ((HG.out.trans g2).trans hg3)
  have HGA := Lib.hid (HG.out.trans g2)
  have HL3 := Lib.hid (hln2.lv.gr hg3)
  have HB3 := Lib.hid hb3
  have x11 := ((HX.out.gr g2).gr hg3).2.2.2.2.2.2.2.2.2.2.2
  rw [HS.out] at x11
  have HO3 := Lib.hid ((HO.out.gr g2).gr hg3)
  clear hln2 g2 hg3 hb3
  go_upto_region 3 with (fail)
  rw [← hW3, ← hb2]
  have HB2 := Lib.hid hb2
  clear hW3 hb2
  obtain ⟨W4, hW4, hg4, hx4⟩ := xbox W3 t92 (.slice (some ⟨w.heap.size, 0, none⟩) 1 1)
  have HG4 := Lib.hid (HG3.out.trans hg4)
  have HX4 := Lib.hid hx4
  have HB4 := Lib.hid (HB3.out.gr hg4)
  have HA2 := Lib.hid (add_any u2 l91 t92 (.slice (some ⟨w.heap.size, 0, none⟩) 1 1) W4 (HL3.out.gr hg4) fitC_91 (HO3.out.gr hg4) (by decide) (fitT rfl))
  rw [add92] at HA2
  have HA2 : Hid (Calls Try.prog 26 #[.agg (lcells u2), .agg (tcs t92 (.slice (some ⟨w.heap.size, 0, none⟩) 1 1))] W4 fun e w' => ∃ u', e = .returned (.tuple #[.agg (lcells u'), .int .i64 0]) ∧ LN w' W4.heap.size u' l92 ∧ Gr W4 w') := HA2
  rw [hs3] at hx4
  obtain ⟨x0, x1, x2, x3, x4, x5, x6, x7, x8, x9, x10, y11⟩ := hx4
  obtain ⟨l0, l1, l2, l3, l4, l5, l6, l7⟩ := HB4.out.all
  clear hg4
  go_upto_region 4 with (fail)
  change Code.wp Try.prog _ _ _ (W3.alloc (.cells (tcs t92 (.slice (some ⟨w.heap.size, 0, none⟩) 1 1)) 44))
  rw [← hW4]
  clear hW4 x11
  go_wp2_with fail
  refine HA2.out.mono ?_
  rintro e w5 ⟨u5, rfl, hln5, g5⟩
  clear x0 x1 x2 x3 x4 x5 x6 x7 x8 x9 x10 y11 l0 l1 l2 l3 l4 l5 l6 l7
  have hb5 := HB4.out.gr g5
  obtain ⟨l0, l1, l2, l3, l4, l5, l6, l7⟩ := hb5.all
  have f0 := unfrozen_of_block hb5.box 0
  have f1 := unfrozen_of_block hb5.box 1
  have f2 := unfrozen_of_block hb5.box 2
  have f3 := unfrozen_of_block hb5.box 3
  have f4 := unfrozen_of_block hb5.box 4
  have f5 := unfrozen_of_block hb5.box 5
  have f6 := unfrozen_of_block hb5.box 6
  have f7 := unfrozen_of_block hb5.box 7
  have hb24 : b2 < W4.heap.size := (Array.getElem?_eq_some_iff.1 HB4.out.box).1
  have hwb : w.heap.size ≤ b2 := by
    have h1 := HG3.out.size
    have h2 : w.heap.size ≤ w2.heap.size := by
      have := HGA.out.size
      omega
    rw [HB2.out]; exact h2
  obtain ⟨w6, hw6, hb6, hl6, hg6⟩ : ∃ x, x = putCells w5 b2 0 [.slice (u5 0).a (u5 0).n (u5 0).c, .slice (u5 1).a (u5 1).n (u5 1).c, .slice (u5 2).a (u5 2).n (u5 2).c, .slice (u5 3).a (u5 3).n (u5 3).c, .slice (u5 4).a (u5 4).n (u5 4).c, .slice (u5 5).a (u5 5).n (u5 5).c, .slice (u5 6).a (u5 6).n (u5 6).c, .slice (u5 7).a (u5 7).n (u5 7).c] ∧ LBox x b2 u5 ∧ LV x u5 l92 ∧ Gr w x :=
    ⟨_, rfl, putL8 hb5 u5, (hln5.mid (mid_putCells hb24 _ _ _)).lv, Gr.putCells hwb _ _ (HG4.out.trans g5)⟩
  have HLV6 := Lib.hid hl6
  have HG6 := Lib.hid hg6
  have HB6 := Lib.hid hb6
  have HC1 := Lib.hid (fun w1 (g : Gr w6 w1) => closed_any u5 l92 c91 w1 (hl6.gr g))
  have HC2 := Lib.hid (fun w1 (g : Gr w6 w1) => closed_any u5 l92 c92 w1 (hl6.gr g))
  rw [clo91] at HC1
  rw [clo92] at HC2
  have HN1 : Hid ((u5 1).n = 1) := Lib.hid (hl6.len (by decide))
  clear hb5 hln5 g5 hb24 hwb hb6 hl6 hg6
  go_upto_region 5 with (fail)
  change Code.wp Try.prog _ _ _ (putCells w5 b2 0 [.slice (u5 0).a (u5 0).n (u5 0).c, .slice (u5 1).a (u5 1).n (u5 1).c, .slice (u5 2).a (u5 2).n (u5 2).c, .slice (u5 3).a (u5 3).n (u5 3).c, .slice (u5 4).a (u5 4).n (u5 4).c, .slice (u5 5).a (u5 5).n (u5 5).c, .slice (u5 6).a (u5 6).n (u5 6).c, .slice (u5 7).a (u5 7).n (u5 7).c])
  rw [← hw6]
  clear hw6 l0 l1 l2 l3 l4 l5 l6 l7 f0 f1 f2 f3 f4 f5 f6 f7
  obtain ⟨l0, l1, l2, l3, l4, l5, l6, l7⟩ := HB6.out.all
  go_wp2_with fail
  refine (HC1.out _ (Gr.refl _)).mono ?_
  rintro e w7 ⟨rfl, g7⟩
  have HG7 := Lib.hid g7
  obtain ⟨l0, l1, l2, l3, l4, l5, l6, l7⟩ := (HB6.out.gr g7).all
  clear g7
  go_wp2_with fail
  refine (HC2.out _ HG7.out).mono ?_
  rintro e w8 ⟨rfl, g8⟩
  have HG8 := Lib.hid (HG7.out.trans g8)
  obtain ⟨l0, l1, l2, l3, l4, l5, l6, l7⟩ := (HB6.out.gr HG8.out).all
  have hn1 := HN1.out
  clear g8
  go_wp2_with fail
  go_ret
  exact ⟨rfl, HG6.out.trans HG8.out⟩
end Go.Proofs.Ytlgljanofppleaa
