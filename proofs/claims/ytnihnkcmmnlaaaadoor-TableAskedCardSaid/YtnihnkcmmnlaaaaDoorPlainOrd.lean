/- Plain mathematics: strings are in one order. It names no program. -/
import Derived.Test.YtnihnkcmmnlaaaaDoorPlainDisk
namespace Go.Proofs.YtnihnkcmmnlaaaaDoor
open Go.Op

theorem less_irrefl : ∀ a : List UInt8, bytesLess a a = false
  | [] => rfl
  | x :: a => by
    unfold bytesLess
    rw [less_irrefl a, Bool.and_false, Bool.or_false, decide_eq_false_iff_not]
    exact fun h => absurd h (UInt8.lt_irrefl x)
theorem less_trans : ∀ a b c : List UInt8, bytesLess a b = true → bytesLess b c = true → bytesLess a c = true
  | _, [], _, h, _ => by unfold bytesLess at h; cases h
  | _, _ :: _, [], _, h => by unfold bytesLess at h; cases h
  | [], _ :: _, _ :: _, _, _ => rfl
  | x :: a, y :: b, z :: c, h, k => by
    unfold bytesLess at h k ⊢
    simp only [Bool.or_eq_true, Bool.and_eq_true, decide_eq_true_eq, beq_iff_eq] at h k ⊢
    rcases h with h | ⟨rfl, h⟩
    · rcases k with k | ⟨rfl, k⟩
      · exact .inl (UInt8.lt_trans h k)
      · exact .inl h
    · rcases k with k | ⟨rfl, k⟩
      · exact .inl k
      · exact .inr ⟨rfl, less_trans a b c h k⟩
theorem less_total : ∀ a b : List UInt8, bytesLess a b = true ∨ a = b ∨ bytesLess b a = true
  | [], [] => .inr (.inl rfl)
  | [], _ :: _ => .inl rfl
  | _ :: _, [] => .inr (.inr rfl)
  | x :: a, y :: b => by
    unfold bytesLess
    simp only [Bool.or_eq_true, Bool.and_eq_true, decide_eq_true_eq, beq_iff_eq]
    rcases Nat.lt_trichotomy x.toNat y.toNat with h | h | h
    · exact .inl (.inl (UInt8.lt_iff_toNat_lt.2 h))
    · have e : x = y := UInt8.toNat_inj.1 h
      subst e
      rcases less_total a b with k | k | k
      · exact .inl (.inr ⟨rfl, k⟩)
      · exact .inr (.inl (by rw [k]))
      · exact .inr (.inr (.inr ⟨rfl, k⟩))
    · exact .inr (.inr (.inl (UInt8.lt_iff_toNat_lt.2 h)))
theorem lessS_irrefl (x : ByteArray) : lessS x x = false := less_irrefl _
theorem lessS_trans {x y z : ByteArray} (h : lessS x y = true) (k : lessS y z = true) : lessS x z = true := less_trans _ _ _ h k
theorem lessS_total (x y : ByteArray) : lessS x y = true ∨ x = y ∨ lessS y x = true := by
  rcases less_total x.toList y.toList with h | h | h
  · exact .inl h
  · refine .inr (.inl (eqS_iff.1 ?_))
    unfold eqS
    rw [h]
    simp
  · exact .inr (.inr h)
theorem lessS_asymm {x y : ByteArray} (h : lessS x y = true) : lessS y x = false := by
  rw [Bool.eq_false_iff]
  intro k
  have := lessS_trans h k
  rw [lessS_irrefl] at this
  cases this
theorem lessS_ne {x y : ByteArray} (h : lessS x y = true) : x ≠ y := fun e => by rw [e, lessS_irrefl] at h; cases h
/-- 'not at most', as the code asks it. -/
theorem leq_not (x y : ByteArray) : (lessS y x || eqS y x) = !lessS x y := by
  rcases lessS_total x y with h | h | h
  · rw [h, lessS_asymm h, eqS_ne (lessS_ne h).symm]
    rfl
  · subst h
    rw [lessS_irrefl, eqS_self]
    rfl
  · rw [h, lessS_asymm h]
    rfl
end Go.Proofs.YtnihnkcmmnlaaaaDoor
