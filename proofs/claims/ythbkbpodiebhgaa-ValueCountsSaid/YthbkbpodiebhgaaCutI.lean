/- Walks: the program's needsOf. -/
import Derived.Test.YthbkbpodiebhgaaCutH
import Derived.Test.YthbkbpodiebhgaaCutF
namespace Go.Proofs.Ythbkbpodiebhgaa
open Go.RowKit Go.Joins

abbrev S0 : Nat → S3 := fun _ => ⟨none, 0, 0⟩
theorem VBox.kp {w w' : World} {g b : Nat} {a : Nat → Nat} (h : VBox w b a) (k : Kp (some g) w w') (hr : b ≠ g) : VBox w' b a := ⟨kp_obj k h.box (fun e => hr (Option.some.inj e).symm)⟩
/-- A row of vectors that the call owns. -/
def RN (w : World) (B : Nat) (s : S3) (f : Nat → Nat → Nat) (n : Nat) : Prop := w.ownsRow B 27 8 (.slice s.a s.n s.c) n (vrows f n)
def needF (l : LG) (i : Nat) : Nat → Nat → Nat := fun k => needV (l i) (k + 1)
theorem putCells_size : ∀ (cs : List Value) (w : World) (g o : Nat), (putCells w g o cs).heap.size = w.heap.size
  | [], _, _, _ => rfl
  | u :: r, w, g, o => by
    show (putCells (w.setCell ⟨g, o, none⟩ u) g (o + 1) r).heap.size = _
    rw [putCells_size r]
    simp [World.setCell]
theorem putCells_keep : ∀ (cs : List Value) (w : World) (g o : Nat) (x : Nat), x ≠ g → (putCells w g o cs).heap[x]? = w.heap[x]?
  | [], _, _, _, _, _ => rfl
  | u :: r, w, g, o, x, h => by
    show (putCells (w.setCell ⟨g, o, none⟩ u) g (o + 1) r).heap[x]? = _
    rw [putCells_keep r _ g (o + 1) x h, Go.Deep.blk_setCell_other _ _ _ _ h]
/-- A vector's box is stored anew. -/
theorem putV8 {w : World} {b : Nat} {a : Nat → Nat} (h : VBox w b a) (c : Nat → Nat) : (∀ x, x ≠ b → (putCells w b 0 (vcells c).toList).heap[x]? = w.heap[x]?) ∧ VBox (putCells w b 0 (vcells c).toList) b c := by
  refine ⟨fun x hx => putCells_keep _ _ _ _ _ hx, ⟨?_⟩⟩
  have h8 := (((((((h.set (k := 0) (by decide) (c 0)).set (k := 1) (by decide) (c 1)).set (k := 2) (by decide) (c 2)).set (k := 3) (by decide) (c 3)).set (k := 4) (by decide) (c 4)).set (k := 5) (by decide) (c 5)).set (k := 6) (by decide) (c 6)).set (k := 7) (by decide) (c 7)
  exact h8.box
theorem vrow_put {w : World} {B g n c : Nat} {f : Nat → Nat → Nat} (h : w.ownsRow B 27 8 (.slice (some ⟨g, 0, none⟩) n c) n (vrows f n)) {k : Nat} (hk : k < n) (a : Nat → Nat) :
    (putCells w g (k * 8) (vcells a).toList).ownsRow B 27 8 (.slice (some ⟨g, 0, none⟩) n c) n (vrows (fun i => if i = k then a else f i) n) ∧ Kp (some g) w (putCells w g (k * 8) (vcells a).toList) := by
  obtain ⟨h1, h2⟩ := own_putCells (vcells a).toList (k * 8) w _ h
  rw [vrows_set f hk a] at h1
  exact ⟨h1, h2⟩
theorem vrows_congr {f g : Nat → Nat → Nat} {n : Nat} (h : ∀ k, k < n → f k = g k) : vrows f n = vrows g n := by
  refine List.ext_getElem? fun j => ?_
  rcases Nat.lt_or_ge j (n * 8) with hj | hj
  · obtain ⟨q, r, rfl, hr⟩ : ∃ q r, j = q * 8 + r ∧ r < 8 := ⟨j / 8, j % 8, by omega, Nat.mod_lt _ (by decide)⟩
    rw [vrows_at f (by omega) hr, vrows_at g (by omega) hr, h q (by omega)]
  · rw [List.getElem?_eq_none (by rw [vrows_len]; exact hj), List.getElem?_eq_none (by rw [vrows_len]; exact hj)]
theorem vrow_cells {w : World} {B g n c : Nat} {f : Nat → Nat → Nat} (h : w.ownsRow B 27 8 (.slice (some ⟨g, 0, none⟩) n c) n (vrows f n)) {k r : Nat} (hk : k < n) (hr : r < 8) : w.cell? ⟨g, k * 8 + r, none⟩ = some (.int .u64 (f k r : Int)) := own_cell h (vrows_at f hk hr)

end Go.Proofs.Ythbkbpodiebhgaa
