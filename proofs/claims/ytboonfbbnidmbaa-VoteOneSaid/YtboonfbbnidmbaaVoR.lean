/- How great a play's parts may grow. -/
import Derived.Test.YtboonfbbnidmbaaVoN
namespace Go.Proofs.Ytboonfbbnidmbaa
open Go.RowKit Vo
set_option linter.unusedSimpArgs false
set_option linter.unusedVariables false

theorem szOk_nil : SzOk ⟨#[]⟩ := by unfold SzOk; decide
theorem szOk_one (x : UInt8) : SzOk ⟨#[x]⟩ := by unfold SzOk; show 1 ≤ 281474976710656; decide
theorem fit0 : FitP pl0 0 :=
  ⟨fun _ => ⟨Nat.zero_le _, Nat.zero_le _, szOk_nil⟩, fun _ h => absurd h List.not_mem_nil, fun _ h => absurd h List.not_mem_nil, Nat.le_refl _, Nat.le_refl _⟩
theorem FitP.more {p : Pl} {t : Nat} (h : FitP p t) : FitP p (t + 1) :=
  ⟨h.acc, fun q hq => by obtain ⟨a, b, c, d, e, f⟩ := h.ask q hq; exact ⟨a, b, c, d, by omega, f⟩, h.said, by have := h.saidLen; omega, by have := h.askLen; omega⟩
theorem fit_new {p : Pl} {t : Nat} (h : FitP p t) (ht : t < 200) (who which : Nat) (hw : who < 8) : FitP (stNew p who which) (t + 1) := by
  have hm := h.more
  have hl := h.askLen
  refine ⟨hm.acc, fun q hq => ?_, hm.said, hm.saidLen, by simp only [stNew, List.length_append, List.length_singleton]; omega⟩
  rcases List.mem_append.1 hq with hq | hq
  · exact hm.ask q hq
  · rw [List.mem_singleton] at hq
    subst hq
    exact ⟨by simp only; omega, by simp only; omega, szOk_one _, szOk_nil, Nat.zero_le _, fun _ h => absurd h List.not_mem_nil⟩
theorem mem_set_ask {L : List Vo.Ask} {k : Nat} {q' q : Vo.Ask} (h : q ∈ L.set k q') : q = q' ∨ q ∈ L := by
  obtain ⟨j, hj, rfl⟩ := List.mem_iff_getElem.1 h
  rcases getElem_set hj with ⟨_, e⟩ | ⟨_, h2, e⟩
  · exact .inl e
  · rw [e]; exact .inr (List.getElem_mem h2)
theorem fit_prep {p : Pl} {t : Nat} (h : FitP p t) (who k : Nat) (hw : who < 8) {q : Vo.Ask} (hq : q ∈ p.asked) : FitP (stPrep p who k q) (t + 1) := by
  have hm := h.more
  unfold stPrep
  split
  case isFalse => exact hm
  obtain ⟨a, b, c, d, e, f⟩ := h.ask q hq
  refine ⟨fun m => ?_, fun q2 hq2 => ?_, hm.said, hm.saidLen, by simp only [List.length_set]; exact hm.askLen⟩
  · simp only [setF]
    split
    · obtain ⟨x, y, z⟩ := h.acc who
      exact ⟨a, y, z⟩
    · exact h.acc m
  · rcases mem_set_ask hq2 with rfl | hq2
    · refine ⟨a, b, c, d, by simp only [List.length_append, List.length_singleton]; omega, fun v hv => ?_⟩
      rcases List.mem_append.1 hv with hv | hv
      · exact f v hv
      · rw [List.mem_singleton] at hv
        subst hv
        obtain ⟨x, y, z⟩ := h.acc who
        exact ⟨⟨by simp only; omega, by simp only; omega⟩, by simp only; omega, by simp only; omega, z⟩
    · exact hm.ask q2 hq2
theorem fit_pick {S : Nat → Bool} {p : Pl} {t : Nat} (h : FitP p t) (k : Nat) {q : Vo.Ask} (hq : q ∈ p.asked) : FitP (stPick S p k q) (t + 1) := by
  have hm := h.more
  unfold stPick
  rcases hx : pickO S q.bal q.votes q.own with _ | x
  · exact hm
  simp only
  split
  · exact hm
  obtain ⟨a, b, c, d, e, f⟩ := h.ask q hq
  refine ⟨hm.acc, fun q2 hq2 => ?_, hm.said, hm.saidLen, by simp only [List.length_set]; exact hm.askLen⟩
  rcases mem_set_ask hq2 with rfl | hq2
  · refine ⟨a, b, c, ?_, by simp only; omega, f⟩
    unfold pickO at hx
    split at hx
    case isFalse => cases hx
    rw [← Option.some.inj hx]
    exact best_fit c f
  · exact hm.ask q2 hq2
theorem fit_acc {p : Pl} {t : Nat} (h : FitP p t) (who : Nat) (hw : who < 8) {q : Vo.Ask} (hq : q ∈ p.asked) : FitP (stAcc p who q) (t + 1) := by
  have hm := h.more
  unfold stAcc
  split
  case isFalse => exact hm
  obtain ⟨a, b, c, d, e, f⟩ := h.ask q hq
  refine ⟨fun m => ?_, hm.ask, fun v hv => ?_, by simp only [List.length_append, List.length_singleton]; have := h.saidLen; omega, hm.askLen⟩
  · simp only [setF]
    split
    · exact ⟨a, a, d⟩
    · exact h.acc m
  · rcases List.mem_append.1 hv with hv | hv
    · exact h.said v hv
    · rw [List.mem_singleton] at hv
      subst hv
      exact ⟨⟨by simp only; omega, by simp only; omega⟩, by simp only; omega, by simp only; omega, d⟩
theorem step_fit {S : Nat → Bool} {p : Pl} {t : Nat} (h : FitP p t) (ht : t < 200) (what who which : Nat) (hw : who < 8) : FitP (stStep S p what who which) (t + 1) := by
  unfold stStep
  split
  · exact fit_new h ht who which hw
  · rcases hq : p.asked[which % p.asked.length]? with _ | q
    · exact h.more
    · have hm := List.mem_of_getElem? hq
      simp only
      split
      · exact fit_prep h who _ hw hm
      · split
        · exact fit_pick h _ hm
        · exact fit_acc h who hw hm
/-- Which step it is. -/
theorem step_new {S : Nat → Bool} {p : Pl} {what who which : Nat} (h : what = 0 ∨ p.asked.length = 0) : stStep S p what who which = stNew p who which := by unfold stStep; rw [if_pos h]
theorem step_old {S : Nat → Bool} {p : Pl} {what who which : Nat} {q : Vo.Ask} (h : ¬ (what = 0 ∨ p.asked.length = 0)) (hq : p.asked[which % p.asked.length]? = some q) :
    stStep S p what who which = if what = 1 then stPrep p who (which % p.asked.length) q else if what = 2 then stPick S p (which % p.asked.length) q else stAcc p who q := by
  unfold stStep
  rw [if_neg h, hq]
end Go.Proofs.Ytboonfbbnidmbaa
