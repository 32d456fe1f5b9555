/- Regions whose last operation is a store that waits for all others: one invariant, each operation walked once. -/
import Derived.Test.YtaldgjcbbjjceaaG20
import Derived.Test.YtaldgjcbbjjceaaG11
namespace Go.Proofs.Ytaldgjcbbjjceaa
open Go.RowKit

/-- N: the last operation; Q: what each other one has left; F: what the store leaves; ed: which operation waits for which. -/
structure RL (W0 : World) (N : Nat) (Q : Nat → World → Value → Prop) (F : World → Prop) (ed : List (Nat × Nat)) (vals : Vals) (w : World) : Prop where
  st : ∀ k y w1 w2, Q k w1 y → Gr w1 w2 → Q k w2 y
  pre : vals N = none → Gr W0 w ∧ ∀ k y, vals k = some y → Q k w y
  fin : vals N ≠ none → F w
  ch : ∀ e ∈ ed, vals e.1 = none → vals e.2 = none
section
variable {W0 : World} {N : Nat} {Q : Nat → World → Value → Prop} {F : World → Prop} {ed : List (Nat × Nat)} {vals : Vals} {w : World}
theorem rl_start {W1 : World} (hst : ∀ k y w1 w2, Q k w1 y → Gr w1 w2 → Q k w2 y) (g : Gr W0 W1) : RL W0 N Q F ed (fun _ => none) W1.drew :=
  ⟨hst, fun _ => ⟨g.drew, fun _ _ h => (by cases h)⟩, fun h => absurd rfl h, fun _ _ _ => rfl⟩
theorem RL.edge (h : RL W0 N Q F ed vals w) {i j : Nat} (he : (i, j) ∈ ed) (hi : vals i = none) : vals j = none := h.ch (i, j) he hi
theorem RL.gr (h : RL W0 N Q F ed vals w) (hN : vals N = none) : Gr W0 w := (h.pre hN).1
theorem RL.ok (h : RL W0 N Q F ed vals w) (hN : vals N = none) {k : Nat} {y : Value} (hy : vals k = some y) : Q k w y := (h.pre hN).2 k y hy
theorem RL.val (h : RL W0 N Q F ed vals w) {k : Nat} {y : Value} {w' : World} (hN : vals N = none) (hk : k ≠ N) (hpre : (ed.all fun e => !(e.2 == k) || (vals e.1).isSome) = true) (g : Gr w w') (hq : Q k w' y) : RL W0 N Q F ed (vals.up k y) w' := by
  have eN : vals.up k y N = vals N := Vals.up_ne vals y (Ne.symm hk)
  refine ⟨h.st, fun _ => ⟨(h.gr hN).trans g, fun j x hx => ?_⟩, fun hc => absurd (by rw [eN]; exact hN) hc, fun e he h1 => ?_⟩
  · by_cases ej : j = k
    · subst ej
      rw [Vals.up_at] at hx
      rw [← Option.some.inj hx]
      exact hq
    · rw [Vals.up_ne vals y ej] at hx
      exact h.st _ _ _ _ (h.ok hN hx) g
  · have e1 : e.1 ≠ k := fun c => by rw [c, Vals.up_at] at h1; cases h1
    rw [Vals.up_ne vals y e1] at h1
    have e2 : e.2 ≠ k := fun c => by
      have := List.all_eq_true.1 hpre e he
      rw [c] at this
      simp [h1] at this
    rw [Vals.up_ne vals y e2]
    exact h.ch e he h1
theorem RL.last (h : RL W0 N Q F ed vals w) {y : Value} {w' : World} (hpre : (ed.all fun e => !(e.2 == N) || (vals e.1).isSome) = true) (hF : F w') : RL W0 N Q F ed (vals.up N y) w' := by
  refine ⟨h.st, fun hc => (by rw [Vals.up_at] at hc; cases hc), fun _ => hF, fun e he h1 => ?_⟩
  have e1 : e.1 ≠ N := fun c => by rw [c, Vals.up_at] at h1; cases h1
  rw [Vals.up_ne vals y e1] at h1
  have e2 : e.2 ≠ N := fun c => by
    have := List.all_eq_true.1 hpre e he
    rw [c] at this
    simp [h1] at this
  rw [Vals.up_ne vals y e2]
  exact h.ch e he h1
end
structure SpecG where
  P : World → Value → Prop
  st : ∀ y w1 w2, P w1 y → Gr w1 w2 → P w2 y
def SpecG.fix (v : Value) : SpecG := ⟨fun _ y => y = v, fun _ _ _ h _ => h⟩
def SpecG.any : SpecG := ⟨fun _ _ => True, fun _ _ _ _ _ => trivial⟩
def SpecG.strs (m : Nat) (E : List ByteArray) : SpecG := ⟨fun w y => ∃ A c, y = .slice A m c ∧ SV w (.slice A m c) E, fun _ _ _ ⟨A, c, h1, h2⟩ g => ⟨A, c, h1, h2.gr g⟩⟩
end Go.Proofs.Ytaldgjcbbjjceaa
