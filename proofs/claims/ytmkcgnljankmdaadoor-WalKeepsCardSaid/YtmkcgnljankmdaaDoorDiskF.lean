/- Walks: a copied list of files. -/
import Derived.Test.YtmkcgnljankmdaaDoorDiskE
namespace Go.Proofs.YtmkcgnljankmdaaDoor
open Go.RowKit

set_option maxRecDepth 100000 in
/-- append([]File{}, l...): new memory that reads as l. -/
theorem wpList_copy_fv {W : World} {ops : Array Oper} {rest : List Oper} {o : Oper} {a : Act} {Q : Exit → Act → World → Prop} (hgd : o.guard = none) (s x : Operand)
    (ho : o.op = .call { callee := .builtin .append, args := #[s, x], argTypes := #[22, 22] })
    (H : Nat) (hH : W.heap.size = H) (hs : a.eval s = .slice (some ⟨H, 0, none⟩) 0 0) (v : Value) (L : List F) (hx : a.eval x = v) (hv : FV W v L) (hlen : L.length * 48 ≤ 140737488355328)
    (h : ∀ A' c' w', FO w' W.heap.size (.slice A' L.length c') L → Gr W w' → wpList Tryd.prog ops Q rest (a.put o.dst (.slice A' L.length c')) w') :
    wpList Tryd.prog ops Q (o :: rest) a (W.alloc (.cells #[] 46)) := by
  obtain ⟨i0, hi, hz0, hz1, hz2⟩ := info_parts infoFile
  have hv' := hv
  subst hH
  obtain ⟨A, c, rfl, l1, l2, l3⟩ := hv
  have G1 : Gr W (W.alloc (.cells #[] 46)) := (Gr.refl _).alloc _
  have ho0 := own_none W 46 3
  cases A with
  | none =>
    have hn0 : L.length = 0 := by
      rcases Nat.eq_zero_or_pos L.length with h | h
      · exact h
      · obtain ⟨b, off, hh, _⟩ := l3 0 h
        cases hh
    have hL : L = [] := List.length_eq_zero_iff.1 hn0
    have hc0 := l2.2 rfl
    subst hL hc0
    refine wpList_append_own_none hgd s x 22 ho W.heap.size 46 i0 3 Tryd.underlying22 hi _ _ _ hs ho0 hx ?_
    have hp := h (some ⟨W.heap.size, 0, none⟩) 0 _ ho0 G1
    exact hp
  | some ad =>
    obtain ⟨hn, hnews⟩ := hv'.news
    refine wpList_append_own _ hgd s x 22 ho W.heap.size 46 i0 _ 3 48 Tryd.underlying22 hi hz0 hz1 hz2 rfl (by decide) _ _ _ hs ho0 ad L.length c (fcells L) hx (fcells_len L) ?_ (fcells_one L) (by unfold maxLen; omega) (by omega) G1.size ?_
    · exact fun j u hu => G1.cell (hnews j u hu)
    · intro v' w' hown hgrow _
      rw [Nat.zero_add, List.nil_append] at hown
      obtain ⟨A', c', rfl, _⟩ := own_form hown
      exact h A' c' w' hown (gr_of_grown G1 ho0 hgrow G1.size)

/-- A call's answer: a disk in new memory. -/
def RetDisk (L : List F) (w : World) (e : Ending) (w' : World) : Prop :=
  ∃ v, e = .returned (.agg #[v]) ∧ FO w' w.heap.size v L ∧ Gr w w'

set_option maxRecDepth 100000 in
theorem rcopy_any (v : Value) (L : List F) (w : World) (hv : FV w v L) (hlen : L.length * 48 ≤ 140737488355328) :
    Calls Tryd.prog 9 #[.agg #[v]] w fun e w' => RetDisk L w e w' := by
  obtain ⟨A, c, hva, _⟩ := id hv
  have HV := Lib.hid hv
  subst hva
  clear hv
  go_enter Tryd.func9, Tryd.ntmps9
  go_wp2_with (at_builtin; refine wpList_copy_fv rfl (.tmp 3) (.tmp 5) rfl (w.heap.size + 1 + 1) (by simp) rfl _ L rfl ?d1 ?d2 ?_)
  case d1 => exact HV.out.gr ((gr_box w _).alloc _)
  case d2 => exact hlen
  intro A' c' w1 hown g1
  have HO := Lib.hid hown
  clear hown
  have G1 : Gr w w1 := ((gr_box w _).alloc _).trans g1
  have c1 : w1.cell? ⟨w.heap.size + 1, 0, none⟩ = some (.slice none 0 0) := g1.cell (by simp)
  have f1 : w1.frozen? ⟨w.heap.size + 1, 0, none⟩ = false := g1.frozen (by simp) (by simp)
  go_wp2
  refine bodyPost_ret (v := .agg #[.slice A' L.length c']) (by simp [results, Tryd.results9, go_sem, c1]) rfl ⟨_, rfl, ?_, ?_⟩
  · exact own_le (ownsRow_setCell_below HO.out (a := ⟨w.heap.size + 1, 0, none⟩) (by show w.heap.size + 1 < _; omega) _) (by omega)
  · exact Below.setCell G1 (show w.heap.size ≤ w.heap.size + 1 by omega) _
end Go.Proofs.YtmkcgnljankmdaaDoor
