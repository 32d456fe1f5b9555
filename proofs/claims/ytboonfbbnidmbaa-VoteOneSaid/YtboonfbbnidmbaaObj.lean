/- Blocks and rows: what a store or a grown row leaves. It names no function. -/
import Derived.Test.YtboonfbbnidmbaaRowsG
namespace Go.Proofs.Ytboonfbbnidmbaa
open Go.RowKit

/-- A row of another type stays where a row is changed. -/
theorem own_past {w w' : World} {B size size' n n' : Nat} {t t' : TypeId} {v u : Value} {xs ys : List Value} (h : w.ownsRow B t size v n xs) (hc : w.ownsRow B t' size' u n' ys) (ht : t ≠ t') (k : Kp u.ownBlock w w') : w'.ownsRow B t size v n xs := by
  refine World.ownsRow.kept h k ?_
  cases hb : v.ownBlock with
  | none => exact .inl rfl
  | some b => exact .inr fun e => own_types h hc ht hb e.symm
/-- What lies at a block that no row of another type owns. -/
theorem kp_obj {r : Option Nat} {w w' : World} (k : Kp r w w') {b : Nat} {o : Obj} (h : w.heap[b]? = some o) (hr : r ≠ some b) : w'.heap[b]? = some o := by
  rw [k.block b (Array.getElem?_eq_some_iff.1 h).1 (fun e => hr e.symm)]
  exact h
theorem gr_obj {w w' : World} (g : Gr w w') {b : Nat} {o : Obj} (h : w.heap[b]? = some o) : w'.heap[b]? = some o := by
  rw [g.block b (Array.getElem?_eq_some_iff.1 h).1]
  exact h
theorem own_ne_obj {w : World} {B size n : Nat} {t t' : TypeId} {v : Value} {xs : List Value} {b : Nat} {cs : Array Value} {fr : Nat × Nat} (h : w.ownsRow B t size v n xs) (ho : w.heap[b]? = some (.cells cs t' fr)) (ht : t ≠ t') : v.ownBlock ≠ some b := by
  intro e
  rcases h.2 with ⟨rfl, _⟩ | ⟨g, cap, cur, rfl, _, hg, _⟩
  · cases e
  · have e1 : g = b := by simpa [Value.ownBlock] using e
    subst e1
    rw [hg] at ho
    injection ho with ho
    injection ho with _ ho
    exact ht ho
theorem obj_cell {w : World} {b i : Nat} {cs : Array Value} {t : TypeId} {fr : Nat × Nat} {v : Value} (h : w.heap[b]? = some (.cells cs t fr)) (hv : cs[i]? = some v) : w.cell? ⟨b, i, none⟩ = some v := by
  unfold World.cell?
  simp only [h]
  exact hv
theorem obj_free {w : World} {b i : Nat} {cs : Array Value} {t : TypeId} (h : w.heap[b]? = some (.cells cs t (0, 0))) : w.frozen? ⟨b, i, none⟩ = false := by
  unfold World.frozen?
  simp only [h]
  simp
theorem set_obj {w : World} {b i : Nat} {cs : Array Value} {t : TypeId} {fr : Nat × Nat} (h : w.heap[b]? = some (.cells cs t fr)) (v : Value) : (w.setCell ⟨b, i, none⟩ v).heap[b]? = some (.cells (cs.setIfInBounds i v) t fr) := by
  have hlt : b < w.heap.size := (Array.getElem?_eq_some_iff.1 h).1
  have he : w.heap[b] = .cells cs t fr := (Array.getElem?_eq_some_iff.1 h).2
  show (w.heap.modify b _)[b]? = _
  rw [Array.getElem?_eq_getElem (by simpa using hlt), Array.getElem_modify, if_pos rfl, he]
  rfl
theorem set_obj_other {w : World} {b b' i : Nat} {o : Obj} (h : w.heap[b']? = some o) (hne : b' ≠ b) (v : Value) : (w.setCell ⟨b, i, none⟩ v).heap[b']? = some o := by
  rw [Below.heap_setCell w ⟨b, i, none⟩ v b' hne]
  exact h
theorem own_set_obj {w : World} {B size n : Nat} {t t' : TypeId} {u : Value} {xs : List Value} {b i : Nat} {cs : Array Value} {fr : Nat × Nat} (h : w.ownsRow B t size u n xs) (ho : w.heap[b]? = some (.cells cs t' fr)) (ht : t ≠ t') (v : Value) : (w.setCell ⟨b, i, none⟩ v).ownsRow B t size u n xs :=
  World.ownsRow.kept h ((Kp.refl (some b) w).set (.inr rfl) i v) (.inr (own_ne_obj h ho ht))
end Go.Proofs.Ytboonfbbnidmbaa
