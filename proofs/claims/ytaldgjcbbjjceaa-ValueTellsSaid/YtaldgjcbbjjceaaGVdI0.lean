/- Walks: the document's Value, what the rounds share. Written by wip/tools/genrv.py. -/
import Derived.Test.YtaldgjcbbjjceaaGVdH
namespace Go.Proofs.Ytaldgjcbbjjceaa
open Go.RowKit Go.Joins
set_option linter.unusedSimpArgs false
set_option linter.unusedVariables false
theorem plL_cap {key : ByteArray} {kind : Int} {O : List TX} (h : ∀ t ∈ O, t.ops.length ≤ 8) (hO : O.length ≤ 65536) : (plL key kind O).length ≤ 600000 := by
  have := plTo_len key kind O h O.length
  unfold plL
  omega
theorem sv_newQ (w : World) (s : ByteArray) : ∃ W, W = w.alloc (.cells #[.string s] 9) ∧ Gr w W ∧ SV W (.slice (some ⟨w.heap.size, 0, none⟩) 1 1) [s] := by
  refine ⟨_, rfl, (Gr.refl w).alloc _, some ⟨w.heap.size, 0, none⟩, 1, rfl, Nat.le_refl _, ⟨by unfold maxLen; omega, fun e => (by cases e)⟩, fun j hj => ⟨w.heap.size, 0, rfl, ?_⟩⟩
  have hj : j < 1 := hj
  obtain rfl : j = 0 := by omega
  rw [cell_of_block (heap_alloc w #[.string s] 9)]; rfl
/-- The flag behind the first j rounds. -/
def onT (b : Bool) (P : TX × Nat → Bool) (L : List (TX × Nat)) : Nat → Bool
  | 0 => b
  | j + 1 => match L[j]? with | some x => onT b P L j || P x | none => onT b P L j
theorem onT_at {b : Bool} {P : TX × Nat → Bool} {L : List (TX × Nat)} {j : Nat} {x : TX × Nat} (h : L[j]? = some x) : onT b P L (j + 1) = (onT b P L j || P x) := by
  show (match L[j]? with | some x => _ | none => _) = _
  rw [h]
theorem onT_all (b : Bool) (P : TX × Nat → Bool) (L : List (TX × Nat)) : onT b P L L.length = (b || L.any P) := by
  have h : ∀ j, j ≤ L.length → onT b P L j = (b || (L.take j).any P) := by
    intro j
    induction j with
    | zero => intro _; simp [onT]
    | succ j ih =>
      intro hj
      have hx : L[j]? = some L[j] := List.getElem?_eq_getElem hj
      rw [onT_at hx, ih (by omega), List.take_add_one, hx, List.any_append]
      simp [Bool.or_assoc]
  rw [h _ (Nat.le_refl _), List.take_length]
def SgA (Q b off nn cc j mq cq : Nat) (Aq : Option Addr) (y : TX × Nat) (vy : Value) (yk yn : Int) (yy ye : ByteArray) (E : List ByteArray) : Nat → SpecG
  | 0 => SpecG.fix (.pointer (some ⟨Q, 1, none⟩))
  | 1 => SpecG.fix (.slice Aq mq cq)
  | 2 => SpecG.fix (.slice (some ⟨b, off, none⟩) nn cc)
  | 3 => SpecG.fix (.int .i64 (j : Int))
  | 4 => SpecG.fix (.pointer (some ⟨b, off + j * 13, none⟩))
  | 5 => SpecG.fix (.agg (pcs y.1 vy y.2))
  | 6 => SpecG.fix (.agg #[.int .i64 yk, .string yy, .string ye, .int .i64 yn])
  | 7 => SpecG.fix (.string ye)
  | 8 => SpecG.strs ((intoT ye E).length) (intoT ye E)
  | 9 => SpecG.fix (.pointer (some ⟨Q, 1, none⟩))
  | _ => SpecG.any
end Go.Proofs.Ytaldgjcbbjjceaa
