/- Walks: the document's Value, of any kind. Laid once by wip/tools/genrv.py and by hand. -/
import Derived.Test.YtaldgjcbbjjceaaGVdI1
import Derived.Test.YtaldgjcbbjjceaaGVdI2
import Derived.Test.YtaldgjcbbjjceaaGVdI3
import Derived.Test.YtaldgjcbbjjceaaGVdI4
import Derived.Test.YtaldgjcbbjjceaaGVdI5
import Derived.Test.YtaldgjcbbjjceaaGVdI6
import Derived.Test.YtaldgjcbbjjceaaGVdI7
import Derived.Test.YtaldgjcbbjjceaaGVdI8
namespace Go.Proofs.Ytaldgjcbbjjceaa
open Go.RowKit Go.Joins
set_option linter.unusedSimpArgs false
set_option linter.unusedVariables false
/-- What the document's Value answers, of any kind at any cut. -/
def rvalV (kind start : Int) (l : LG) (v : Nat → Nat) (key : ByteArray) : VR := if valE kind l v = 0 then rvR kind start (ordR l v) key else ⟨0, [], false⟩
set_option maxRecDepth 100000 in
set_option maxHeartbeats 8000000 in
theorem rval_any (kind start : Int) (u : Nat → S3) (l : LG) (v : Nat → Nat) (key : ByteArray) (w : World) (h : LV w u l) (hq : FitQ l) (hfc : FitC l) (hb : wrap64 start = start) :
    Calls Try.prog 13 #[.int .i64 kind, .int .i64 start, .agg (lcells u), .agg (vcells v), .string key] w fun e w' => RetR (rvalV kind start l v key) (valE kind l v) w e w' := by
  by_cases hgood : valE kind l v = 0
  · have hr : rvalV kind start l v key = rvR kind start (ordR l v) key := by unfold rvalV; rw [if_pos hgood]
    rw [hr, hgood]
    have hk : ¬ (kind < 1 ∨ 8 < kind) := fun c => by unfold valE at hgood; rw [if_pos c] at hgood; omega
    have hok : checkE l = 0 := by
      unfold valE at hgood
      rw [if_neg hk] at hgood
      by_cases c : checkE l = 0
      · exact c
      · rw [if_neg c] at hgood; exact hgood
    have hcl : closedB l v = true := by
      unfold valE at hgood
      rw [if_neg hk, if_pos hok] at hgood
      by_cases c : closedB l v = true
      · exact c
      · rw [if_neg c] at hgood; omega
    obtain rfl | rfl | rfl | rfl | rfl | rfl | rfl | rfl : kind = 1 ∨ kind = 2 ∨ kind = 3 ∨ kind = 4 ∨ kind = 5 ∨ kind = 6 ∨ kind = 7 ∨ kind = 8 := by omega
    · exact rvalK1 start u l v key w h hq hfc hok hcl hb
    · exact rvalK2 start u l v key w h hq hfc hok hcl hb
    · exact rvalK3 start u l v key w h hq hfc hok hcl hb
    · exact rvalK4 start u l v key w h hq hfc hok hcl hb
    · exact rvalK5 start u l v key w h hq hfc hok hcl hb
    · exact rvalK6 start u l v key w h hq hfc hok hcl hb
    · exact rvalK7 start u l v key w h hq hfc hok hcl hb
    · exact rvalK8 start u l v key w h hq hfc hok hcl hb
  have hr : rvalV kind start l v key = ⟨0, [], false⟩ := by unfold rvalV; rw [if_neg hgood]
  rw [hr]
  clear hr
  obtain ⟨W, hW, hg, hL, hV, hz⟩ := boxesVa u v w
  have HSW : Hid (w.heap.size + 1 + 1 < W.heap.size) := Lib.hid (by rw [hW]; simp)
  have HL := Lib.hid hL
  have HV := Lib.hid hV
  have HZ := Lib.hid hz
  have HG := Lib.hid hg
  have hz0 := HZ.out
  have z0 : W.cell? ⟨w.heap.size + 1 + 1, 0, none⟩ = some (.int .i64 0) := by rw [cell_of_block hz0]; rfl
  have z1 : W.cell? ⟨w.heap.size + 1 + 1, 1, none⟩ = some (.slice none 0 0) := by rw [cell_of_block hz0]; rfl
  have z2 : W.cell? ⟨w.heap.size + 1 + 1, 2, none⟩ = some (.bool false) := by rw [cell_of_block hz0]; rfl
  have k0 := unfrozen_of_block hz0 0
  have k1 := unfrozen_of_block hz0 1
  have k2 := unfrozen_of_block hz0 2
  by_cases hk1 : kind < 1
  · have HE : Hid (valE kind l v = 100) := Lib.hid (by unfold valE; rw [if_pos (.inl hk1)])
    have d1 : decide (kind < 1) = true := decide_eq_true hk1
    rw [HE.out]
    clear hL hV hz hg h hq hb hfc hgood hz0
    go_enter Try.func13, Try.ntmps13
    go_upto_region 1 with (fail)
    rw [← hW]
    clear hW
    go_wp2_with fail
    refine bodyPost_ret (v := .tuple #[.agg (valv 0), .int .i64 100]) (by simp [results, Try.results13, go_sem, *]) rfl ⟨_, rfl, SV.nil _, ?_⟩
    show Gr w (((W.setCell _ _).setCell _ _).setCell _ _)
    exact ((HG.out.setCell (by simp only []; omega) _).setCell (by simp only []; omega) _).setCell (by simp only []; omega) _
  by_cases hk8 : 8 < kind
  · have HE : Hid (valE kind l v = 100) := Lib.hid (by unfold valE; rw [if_pos (.inr hk8)])
    have d1 : decide (kind < 1) = false := decide_eq_false hk1
    have d2 : decide (8 < kind) = true := decide_eq_true hk8
    rw [HE.out]
    clear hL hV hz hg h hq hb hfc hgood hz0
    go_enter Try.func13, Try.ntmps13
    go_upto_region 1 with (fail)
    rw [← hW]
    clear hW
    go_wp2_with fail
    refine bodyPost_ret (v := .tuple #[.agg (valv 0), .int .i64 100]) (by simp [results, Try.results13, go_sem, *]) rfl ⟨_, rfl, SV.nil _, ?_⟩
    show Gr w (((W.setCell _ _).setCell _ _).setCell _ _)
    exact ((HG.out.setCell (by simp only []; omega) _).setCell (by simp only []; omega) _).setCell (by simp only []; omega) _
  have hkk : ¬ (kind < 1 ∨ 8 < kind) := by omega
  have HKK : Hid (1 ≤ kind ∧ kind ≤ 8) := Lib.hid (by omega)
  have d1 : decide (kind < 1) = false := decide_eq_false hk1
  have d2 : decide (8 < kind) = false := decide_eq_false hk8
  have HCK := Lib.hid (fun w1 (g : Gr W w1) => rcheck9_any u l w1 ((h.gr hg).gr g) hq)
  obtain ⟨l0, l1, l2, l3, l4, l5, l6, l7⟩ := hL.all
  obtain ⟨ce, hce⟩ : ∃ c, c = checkE l := ⟨_, rfl⟩
  rw [← hce] at HCK
  by_cases hc0 : ce = 0
  · have hok : checkE l = 0 := by rw [← hce]; exact hc0
    have HCL := Lib.hid (fun w1 (g : Gr W w1) => rclosed_any u l v w1 ((h.gr hg).gr g))
    subst hc0
    by_cases hcl : closedB l v = true
    · exact absurd (by unfold valE; rw [if_neg hkk, if_pos hok, if_pos hcl]) hgood
    · have hcl : closedB l v = false := Bool.eq_false_iff.2 hcl
      have HE : Hid (valE kind l v = 92) := Lib.hid (by unfold valE; rw [if_neg hkk, if_pos hok, hcl]; rfl)
      rw [hcl] at HCL
      rw [HE.out]
      clear hL hV hz hg h hq hb hfc hgood hz0 hok hcl z0 z1 z2 k0 k1 k2 hce hkk hk1 hk8
      go_enter Try.func13, Try.ntmps13
      go_upto_region 1 with (fail)
      rw [← hW]
      clear hW
      go_wp2_with fail
      refine (HCK.out _ (Gr.refl _)).mono ?_
      rintro e w2 ⟨rfl, g2⟩
      have HG2 := Lib.hid g2
      clear g2 l0 l1 l2 l3 l4 l5 l6 l7
      obtain ⟨l0, l1, l2, l3, l4, l5, l6, l7⟩ := (HL.out.gr HG2.out).all
      obtain ⟨v0, v1, v2, v3, v4, v5, v6, v7⟩ := (HV.out.gr HG2.out).all
      go_wp2_with fail
      refine (HCL.out _ HG2.out).mono ?_
      rintro e w3 ⟨rfl, g3⟩
      have HG3 := Lib.hid (HG2.out.trans g3)
      clear g3 l0 l1 l2 l3 l4 l5 l6 l7 v0 v1 v2 v3 v4 v5 v6 v7
      have hz2 := gr_obj HG3.out HZ.out
      have z0 : w3.cell? ⟨w.heap.size + 1 + 1, 0, none⟩ = some (.int .i64 0) := by rw [cell_of_block hz2]; rfl
      have z1 : w3.cell? ⟨w.heap.size + 1 + 1, 1, none⟩ = some (.slice none 0 0) := by rw [cell_of_block hz2]; rfl
      have z2 : w3.cell? ⟨w.heap.size + 1 + 1, 2, none⟩ = some (.bool false) := by rw [cell_of_block hz2]; rfl
      have k0 := unfrozen_of_block hz2 0
      have k1 := unfrozen_of_block hz2 1
      have k2 := unfrozen_of_block hz2 2
      clear hz2
      go_wp2_with fail
      refine bodyPost_ret (v := .tuple #[.agg (valv 0), .int .i64 92]) (by simp [results, Try.results13, go_sem, *]) rfl ⟨_, rfl, SV.nil _, ?_⟩
      show Gr w (((w3.setCell _ _).setCell _ _).setCell _ _)
      exact (((HG.out.trans HG3.out).setCell (by simp only []; omega) _).setCell (by simp only []; omega) _).setCell (by simp only []; omega) _
  · have hok : ¬ checkE l = 0 := by rw [← hce]; exact hc0
    have HE : Hid (valE kind l v = ce) := Lib.hid (by unfold valE; rw [if_neg hkk, if_neg hok]; exact hce.symm)
    have hc1 : ¬ (ce : Int) = 0 := by omega
    have hc2 : decide ((ce : Int) = 0) = false := decide_eq_false hc1
    have hc3 : ((ce : Int) == 0) = false := beq_eq_false_iff_ne.2 hc1
    rw [HE.out]
    clear hL hV hz hg h hq hb hfc hgood hz0 hok z0 z1 z2 k0 k1 k2 hce hkk hk1 hk8
    go_enter Try.func13, Try.ntmps13
    go_upto_region 1 with (fail)
    rw [← hW]
    clear hW
    go_wp2_with fail
    refine (HCK.out _ (Gr.refl _)).mono ?_
    rintro e w3 ⟨rfl, g2⟩
    have HG3 := Lib.hid g2
    clear g2 l0 l1 l2 l3 l4 l5 l6 l7
    have hz2 := gr_obj HG3.out HZ.out
    have z0 : w3.cell? ⟨w.heap.size + 1 + 1, 0, none⟩ = some (.int .i64 0) := by rw [cell_of_block hz2]; rfl
    have z1 : w3.cell? ⟨w.heap.size + 1 + 1, 1, none⟩ = some (.slice none 0 0) := by rw [cell_of_block hz2]; rfl
    have z2 : w3.cell? ⟨w.heap.size + 1 + 1, 2, none⟩ = some (.bool false) := by rw [cell_of_block hz2]; rfl
    have k0 := unfrozen_of_block hz2 0
    have k1 := unfrozen_of_block hz2 1
    have k2 := unfrozen_of_block hz2 2
    clear hz2
    go_wp2_with fail
    refine bodyPost_ret (v := .tuple #[.agg (valv 0), .int .i64 (ce : Int)]) (by simp [results, Try.results13, go_sem, *]) rfl ⟨_, rfl, SV.nil _, ?_⟩
    show Gr w (((w3.setCell _ _).setCell _ _).setCell _ _)
    exact (((HG.out.trans HG3.out).setCell (by simp only []; omega) _).setCell (by simp only []; omega) _).setCell (by simp only []; omega) _
end Go.Proofs.Ytaldgjcbbjjceaa
