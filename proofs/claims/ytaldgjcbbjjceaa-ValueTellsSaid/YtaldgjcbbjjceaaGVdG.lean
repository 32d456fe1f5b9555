/- What a store into a box of a value leaves; what the rounds of the document's Value leave. -/
import Derived.Test.YtaldgjcbbjjceaaGVdF
import Derived.Test.YtaldgjcbbjjceaaG09
namespace Go.Proofs.Ytaldgjcbbjjceaa
open Go.RowKit Go.Joins
set_option linter.unusedSimpArgs false
set_option linter.unusedVariables false

/-- A box of a value lies here. -/
def QBox (w : World) (Q : Nat) (n : Int) (A : Option Addr) (m c : Nat) (on : Bool) : Prop := w.heap[Q]? = some (.cells #[.int .i64 n, .slice A m c, .bool on] 32 (0, 0))
theorem QBox.gr {w w' : World} {Q : Nat} {n : Int} {A : Option Addr} {m c : Nat} {on : Bool} (h : QBox w Q n A m c on) (g : Gr w w') : QBox w' Q n A m c on := gr_obj g h
theorem QBox.cells {w : World} {Q : Nat} {n : Int} {A : Option Addr} {m c : Nat} {on : Bool} (h : QBox w Q n A m c on) : w.cell? ⟨Q, 0, none⟩ = some (.int .i64 n) ∧ w.cell? ⟨Q, 1, none⟩ = some (.slice A m c) ∧ w.cell? ⟨Q, 2, none⟩ = some (.bool on) := by
  have h : w.heap[Q]? = _ := h
  refine ⟨?_, ?_, ?_⟩ <;> (rw [cell_of_block h]; rfl)
theorem QBox.fz {w : World} {Q : Nat} {n : Int} {A : Option Addr} {m c : Nat} {on : Bool} (h : QBox w Q n A m c on) : w.frozen? ⟨Q, 0, none⟩ = false ∧ w.frozen? ⟨Q, 1, none⟩ = false ∧ w.frozen? ⟨Q, 2, none⟩ = false :=
  ⟨unfrozen_of_block h 0, unfrozen_of_block h 1, unfrozen_of_block h 2⟩
theorem QBox.lt {w : World} {Q : Nat} {n : Int} {A : Option Addr} {m c : Nat} {on : Bool} (h : QBox w Q n A m c on) : Q < w.heap.size := (Array.getElem?_eq_some_iff.1 h).1
theorem QBox.set0 {w : World} {Q : Nat} {n : Int} {A : Option Addr} {m c : Nat} {on : Bool} (h : QBox w Q n A m c on) (n' : Int) : QBox (w.setCell ⟨Q, 0, none⟩ (.int .i64 n')) Q n' A m c on := set_obj (i := 0) h _
theorem QBox.set1 {w : World} {Q : Nat} {n : Int} {A : Option Addr} {m c : Nat} {on : Bool} (h : QBox w Q n A m c on) (A' : Option Addr) (m' c' : Nat) : QBox (w.setCell ⟨Q, 1, none⟩ (.slice A' m' c')) Q n A' m' c' on := set_obj (i := 1) h _
theorem QBox.set2 {w : World} {Q : Nat} {n : Int} {A : Option Addr} {m c : Nat} {on : Bool} (h : QBox w Q n A m c on) (on' : Bool) : QBox (w.setCell ⟨Q, 2, none⟩ (.bool on')) Q n A m c on' := set_obj (i := 2) h _
/-- No string lies in a box of a value. -/
theorem QBox.ne {w : World} {Q : Nat} {n : Int} {A : Option Addr} {m c : Nat} {on : Bool} (h : QBox w Q n A m c on) {b i : Nat} {s : ByteArray} (hc : w.cell? ⟨b, i, none⟩ = some (.string s)) : b ≠ Q := by
  intro e
  subst e
  have h : w.heap[b]? = _ := h
  rw [cell_of_block h] at hc
  match i with
  | 0 => cases hc
  | 1 => cases hc
  | 2 => cases hc
  | k + 3 => cases hc
theorem SV.kq {w w' : World} {Q : Nat} {n : Int} {A : Option Addr} {m c : Nat} {on : Bool} (h : QBox w Q n A m c on) (k : Kp (some Q) w w') {v : Value} {E : List ByteArray} (hv : SV w v E) : SV w' v E := by
  obtain ⟨A', c', hv', h1, h2, h3⟩ := hv
  refine ⟨A', c', hv', h1, h2, fun j hj => ?_⟩
  obtain ⟨b, off, ha, hc⟩ := h3 j hj
  exact ⟨b, off, ha, k.cellNe hc (h.ne hc)⟩
theorem TOV.kq {w w' : World} {Q : Nat} {n : Int} {A : Option Addr} {m c : Nat} {on : Bool} (h : QBox w Q n A m c on) (k : Kp (some Q) w w') {v : Value} {L : List TO} (hv : TOV w v L) : TOV w' v L := by
  obtain ⟨A', c', hv', h1, h2, h3⟩ := hv
  refine ⟨A', c', hv', h1, h2, fun j hj => ?_⟩
  obtain ⟨b, off, ha, c0, c1, c2, c3⟩ := h3 j hj
  have hb := h.ne c1
  exact ⟨b, off, ha, k.cellNe c0 hb, k.cellNe c1 hb, k.cellNe c2 hb, k.cellNe c3 hb⟩
theorem PLT.kq {w w' : World} {Q : Nat} {n : Int} {A : Option Addr} {m c : Nat} {on : Bool} (h : QBox w Q n A m c on) (k : Kp (some Q) w w') {R : List PR} (hv : PLT w R) : PLT w' R := fun r hr => TOV.kq h k (hv r hr)
theorem PLO.kq {w w' : World} {Q B : Nat} {n : Int} {A : Option Addr} {m c : Nat} {on : Bool} (h : QBox w Q n A m c on) (k : Kp (some Q) w w') {v : Value} {R : List PR} (hv : PLO w B v R) : PLO w' B v R :=
  World.ownsRow.kept hv k (.inr (own_ne_obj hv h (by decide)))
/-- A row of places and what they tell. -/
structure PLR (w : World) (v : Value) (L : List (TX × Nat)) : Prop where
  ex : ∃ B R, PLO w B v R ∧ R.map (·.1) = L ∧ PLT w R
theorem PLR.gr {w w' : World} {v : Value} {L : List (TX × Nat)} (h : PLR w v L) (g : Gr w w') : PLR w' v L := by
  obtain ⟨B, R, h1, h2, h3⟩ := h.ex
  exact ⟨B, R, h1.gr g, h2, h3.gr g⟩
theorem PLR.kq {w w' : World} {Q : Nat} {n : Int} {A : Option Addr} {m c : Nat} {on : Bool} (h : QBox w Q n A m c on) (k : Kp (some Q) w w') {v : Value} {L : List (TX × Nat)} (hv : PLR w v L) : PLR w' v L := by
  obtain ⟨B, R, h1, h2, h3⟩ := hv.ex
  exact ⟨B, R, h1.kq h k, h2, h3.kq h k⟩
theorem PLR.plv {w : World} {v : Value} {L : List (TX × Nat)} (h : PLR w v L) : PLV w v L := by
  obtain ⟨B, R, h1, h2, h3⟩ := h.ex
  rw [← h2]
  exact h1.plv h3
theorem placesP_any (v : Value) (L : List TX) (key : ByteArray) (kind : Int) (w : World) (h : XV w v L) (hop : ∀ t ∈ L, t.ops.length ≤ 8) (hL : L.length ≤ 65536) :
    Calls Try.prog 34 #[v, .string key, .int .i64 kind] w fun e w' => ∃ A c, e = .returned (.slice A (plL key kind L).length c) ∧ PLR w' (.slice A (plL key kind L).length c) (plL key kind L) ∧ Gr w w' :=
  (placesR_any v L key kind w h hop hL).mono fun e w' ⟨s, R, he, h1, h2, h3, g⟩ => by
    have hp : PLR w' s (plL key kind L) := ⟨_, R, h1, h2, h3.gr g⟩
    obtain ⟨A, c, hs⟩ := plv_form hp.plv
    subst hs
    exact ⟨A, c, he, hp, g⟩
/-- The elements that are put in, one behind the other. -/
def foldT (p : TX × Nat → Bool) (L : List (TX × Nat)) : Nat → List ByteArray
  | 0 => []
  | j + 1 => match L[j]? with | some x => if p x = true then intoT (elP x) (foldT p L j) else foldT p L j | none => foldT p L j
theorem foldT_yes {p : TX × Nat → Bool} {L : List (TX × Nat)} {j : Nat} {x : TX × Nat} (h : L[j]? = some x) (hp : p x = true) : foldT p L (j + 1) = intoT (elP x) (foldT p L j) := by
  show (match L[j]? with | some x => _ | none => _) = _
  rw [h]
  simp only [hp, if_true]
theorem foldT_no {p : TX × Nat → Bool} {L : List (TX × Nat)} {j : Nat} {x : TX × Nat} (h : L[j]? = some x) (hp : p x = false) : foldT p L (j + 1) = foldT p L j := by
  show (match L[j]? with | some x => _ | none => _) = _
  rw [h]
  simp [hp]
theorem foldT_len (p : TX × Nat → Bool) (L : List (TX × Nat)) : ∀ j, (foldT p L j).length ≤ j
  | 0 => Nat.le_refl _
  | j + 1 => by
    have ih := foldT_len p L j
    unfold foldT
    split
    · split
      · next x _ _ =>
        have := intoT_len (elP x) (foldT p L j)
        omega
      · omega
    · omega
end Go.Proofs.Ytaldgjcbbjjceaa
