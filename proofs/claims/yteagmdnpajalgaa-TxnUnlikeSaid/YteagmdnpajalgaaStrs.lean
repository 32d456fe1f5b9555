/- Rows of strings that the call owns; append onto them. -/
import Derived.Test.YteagmdnpajalgaaSV
namespace Go.Proofs.Yteagmdnpajalgaa
open Go.RowKit

/-- The call owns the slice v from block B on: it reads as these strings. -/
def SO (w : World) (B : Nat) (v : Value) (L : List ByteArray) : Prop := w.ownsRow B 9 1 v L.length (L.map Value.string)
theorem SO.gr {w w' : World} {B : Nat} {v : Value} {L : List ByteArray} (h : SO w B v L) (g : Gr w w') : SO w' B v L := own_gr h g
theorem SO.le {w : World} {B B' : Nat} {v : Value} {L : List ByteArray} (h : SO w B v L) (hb : B' ≤ B) : SO w B' v L := own_le h hb
theorem SO.nil (w : World) (B : Nat) : SO w B (.slice none 0 0) [] := World.ownsRow_nil w B _ _
theorem SO.sv {w : World} {B : Nat} {v : Value} {L : List ByteArray} (h : SO w B v L) : SV w v L := SV.of_own h
theorem strs_one (L : List ByteArray) : ∀ u ∈ L.map Value.string, u.oneCell' = true := by
  intro u hu
  obtain ⟨s, _, rfl⟩ := List.mem_map.1 hu
  rfl
theorem SV.sl {w : World} {v : Value} {L : List ByteArray} (h : SV w v L) : SL w 1 v L.length (L.map Value.string) := by
  obtain ⟨A, c, hv, h1, h2, h3⟩ := h
  refine ⟨A, c, hv, h1, h2, by rw [List.length_map, Nat.mul_one], fun j u hj => ?_⟩
  obtain ⟨hl, he⟩ := List.getElem?_eq_some_iff.1 hj
  rw [List.length_map] at hl
  obtain ⟨b, off, ha, hc⟩ := h3 j hl
  refine ⟨b, off, ha, ?_⟩
  rw [hc, ← he, List.getElem_map]
/-- append of strings to a row of the call's own. -/
theorem wpList_push_strs {W w0 : World} {ops : Array Oper} {rest : List Oper} {o : Oper} {a : Act} {Q : Exit → Act → World → Prop} (hgd : o.guard = none) (s x : Operand)
    (ho : o.op = .call { callee := .builtin .append, args := #[s, x], argTypes := #[51, 51] })
    (v vx : Value) (L M : List ByteArray) (hs : a.eval s = v) (hown : SO W w0.heap.size v L) (hx : a.eval x = vx) (hxv : SV W vx M) (hlen : (L.length + M.length) * 16 ≤ 140737488355328) (hg : Gr w0 W)
    (h : ∀ A' c' w', SO w' w0.heap.size (.slice A' (L.length + M.length) c') (L ++ M) → Gr w0 w' → W.grownBy w' v.ownBlock → wpList Try.prog ops Q rest (a.put o.dst (.slice A' (L.length + M.length) c')) w') :
    wpList Try.prog ops Q (o :: rest) a W := by
  obtain ⟨i0, hi, hz0, hz1, hz2⟩ := info_parts infoString
  have hsz := hg.size
  refine wpList_append_sl _ hgd s x 51 ho w0.heap.size 9 i0 _ 1 16 Try.underlying51 hi hz0 hz1 hz2 rfl (by decide) v L.length (L.map Value.string) hs hown vx M.length (M.map Value.string) hx
    hxv.sl (strs_one M) (by unfold maxLen; omega) hlen hsz (L.length + M.length) rfl ?_
  intro A' c' w' hown' hgr _
  refine h A' c' w' ?_ (gr_of_grown hg hown hgr hsz) hgr
  unfold SO
  rw [List.length_append, List.map_append]
  exact hown'

end Go.Proofs.Yteagmdnpajalgaa
