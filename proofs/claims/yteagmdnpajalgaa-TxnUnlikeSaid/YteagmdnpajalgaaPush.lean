/- A row of strings of the call's own: append in a region that draws its order; a pair of strings written out. -/
import Derived.Test.YteagmdnpajalgaaStrs
namespace Go.Proofs.Yteagmdnpajalgaa
open Go.RowKit

theorem sv_two (w : World) (s t : ByteArray) : SV (w.alloc (.cells #[.string s, .string t] 9)) (.slice (some ⟨w.heap.size, 0, none⟩) 2 2) [s, t] := by
  refine ⟨_, 2, rfl, Nat.le_refl _, ⟨by decide, fun h => by cases h⟩, fun j hj => ⟨w.heap.size, 0, rfl, ?_⟩⟩
  match j, hj with
  | 0, _ => rw [World.cell?_alloc_mark]; rfl
  | 1, _ => rw [World.cell?_alloc_mark]; rfl
theorem sv_two_at (w : World) (s t : ByteArray) (b : Nat) (hb : b = w.heap.size) : SV (w.alloc (.cells #[.string s, .string t] 9)) (.slice (some ⟨b, 0, none⟩) 2 2) [s, t] := by subst hb; exact sv_two w s t
section
variable {ops : Array Oper} {o : Oper} {a : Act} {W w0 : World} {K : Act → World → Prop} {Q : Exit → Act → World → Prop} {E : Prop}
theorem step_push_strs (hgd : o.guard = none) (s x : Operand)
    (ho : o.op = .call { callee := .builtin .append, args := #[s, x], argTypes := #[51, 51] })
    (v vx : Value) (L M : List ByteArray) (n m : Nat) (hn : n = L.length) (hm : m = M.length) (hs : a.eval s = v) (hown : SO W w0.heap.size v L) (hx : a.eval x = vx) (hxv : SV W vx M) (hlen : (n + m) * 16 ≤ 140737488355328) (hg : Gr w0 W)
    (h : ∀ A' c' w', SO w' w0.heap.size (.slice A' (n + m) c') (L ++ M) → Gr w0 w' → K (a.put o.dst (.slice A' (n + m) c')) w') :
    if Region.wanted o (yielded ops a.tmps) = true then Oper.wp Try.prog o a W K Q else E := by
  subst hn hm
  obtain ⟨i0, hi, hz0, hz1, hz2⟩ := info_parts infoString
  have hsz := hg.size
  refine step_append_sl W hgd s x 51 ho w0.heap.size 9 i0 _ 1 16 Try.underlying51 hi hz0 hz1 hz2 rfl (by decide) v L.length (L.map Value.string) hs hown vx M.length (M.map Value.string) hx
    hxv.sl (strs_one M) (by unfold maxLen; omega) hlen hsz (L.length + M.length) rfl ?_
  intro A' c' w' hown' hgr _
  refine h A' c' w' ?_ (gr_of_grown hg hown hgr hsz)
  unfold SO
  rw [List.length_append, List.map_append]
  exact hown'
theorem wpList_push_n {rest : List Oper} {Q : Exit → Act → World → Prop} (hgd : o.guard = none) (s x : Operand)
    (ho : o.op = .call { callee := .builtin .append, args := #[s, x], argTypes := #[51, 51] })
    (v vx : Value) (L M : List ByteArray) (n m : Nat) (hn : n = L.length) (hm : m = M.length) (hs : a.eval s = v) (hown : SO W w0.heap.size v L) (hx : a.eval x = vx) (hxv : SV W vx M) (hlen : (n + m) * 16 ≤ 140737488355328) (hg : Gr w0 W)
    (h : ∀ A' c' w', SO w' w0.heap.size (.slice A' (n + m) c') (L ++ M) → Gr w0 w' → wpList Try.prog ops Q rest (a.put o.dst (.slice A' (n + m) c')) w') :
    wpList Try.prog ops Q (o :: rest) a W := by
  subst hn hm
  exact wpList_push_strs hgd s x ho v vx L M hs hown hx hxv hlen hg (fun A' c' w' h1 h2 _ => h A' c' w' h1 h2)
end
end Go.Proofs.Yteagmdnpajalgaa
