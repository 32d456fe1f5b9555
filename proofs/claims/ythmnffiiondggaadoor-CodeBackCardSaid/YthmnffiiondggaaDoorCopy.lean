/- The law of append([]string{}, l...): new memory that reads as l. -/
import Derived.Test.YthmnffiiondggaaDoorRoomy
namespace Go.Proofs.YthmnffiiondggaaDoor
open Go.RowKit

set_option maxRecDepth 100000 in
theorem wpList_copy_sv {W : World} {ops : Array Oper} {rest : List Oper} {o : Oper} {a : Act} {Q : Exit → Act → World → Prop} (hgd : o.guard = none) (s x : Operand)
    (ho : o.op = .call { callee := .builtin .append, args := #[s, x], argTypes := #[29, 29] })
    (hs : a.eval s = .slice (some ⟨W.heap.size, 0, none⟩) 0 0) (v : Value) (L : List ByteArray) (hx : a.eval x = v) (hv : SV W v L) (hlen : L.length * 16 ≤ 140737488355328)
    (h : ∀ v' w', w'.ownsRow W.heap.size 9 1 v' L.length (L.map Value.string) → Gr W w' → wpList Tryd.prog ops Q rest (a.put o.dst v') w') :
    wpList Tryd.prog ops Q (o :: rest) a (W.alloc (.cells #[] 9)) := by
  obtain ⟨i0, hi, hz0, hz1, hz2⟩ := info_parts infoString
  obtain ⟨A, c, rfl, l1, l2, l3⟩ := hv
  have G1 : Gr W (W.alloc (.cells #[] 9)) := (Gr.refl _).alloc _
  cases A with
  | none =>
    have hn0 : L.length = 0 := by
      rcases Nat.eq_zero_or_pos L.length with h | h
      · exact h
      · obtain ⟨b, off, hh, _⟩ := l3 0 h
        cases hh
    have hL : L = [] := List.length_eq_zero_iff.1 hn0
    have hc0 := l2.2 rfl
    subst hL hc0
    refine wpList_append_own_none hgd s x 29 ho W.heap.size 9 i0 1 Tryd.underlying29 hi _ _ _ hs (own_empty W) hx ?_
    have hp := h (.slice (some ⟨W.heap.size, 0, none⟩) 0 0) _ (own_empty W) G1
    exact hp
  | some ad =>
    refine wpList_append_own _ hgd s x 29 ho W.heap.size 9 i0 (.string ⟨#[]⟩) 1 16 Tryd.underlying29 hi hz0 hz1 hz2 rfl (by decide) _ _ _ hs (own_empty W) ad L.length c (L.map Value.string) hx (by rw [List.length_map, Nat.mul_one]) ?_ ?_ (by unfold maxLen; omega) (by omega) G1.size ?_
    · intro j u hu
      obtain ⟨hj, rfl⟩ := List.getElem?_eq_some_iff.1 hu
      rw [List.length_map] at hj
      obtain ⟨b, off, hh, hc⟩ := l3 j hj
      injection hh with hh
      subst hh
      rw [Go.WideShapes.add_plain, G1.cell hc]
      simp
    · intro u hu
      obtain ⟨s, _, rfl⟩ := List.mem_map.1 hu
      rfl
    · intro v' w' hown hgrow _
      rw [Nat.zero_add, List.nil_append] at hown
      exact h v' w' hown (gr_of_grown G1 (own_empty W) hgrow G1.size)
end Go.Proofs.YthmnffiiondggaaDoor
