/- Lists of transactions; walks: slices.EqualFunc, the program's and the document's SameList. -/
import Derived.Test.YtioldhhnkeakcaaDoorTxB
import Derived.Test.YtioldhhnkeakcaaDoorQuiet
import Derived.Deep.DeepCutAuto
namespace Go.Proofs.YtioldhhnkeakcaaDoor
open Go.RowKit

/-- The cells of the transaction t, whose list is the slice v, lie at this place. -/
def XFix (w : World) (b off : Nat) (t : TX) (v : Value) : Prop :=
  w.cell? ⟨b, off, none⟩ = some (.int .i64 t.origin) ∧ w.cell? ⟨b, off + 1, none⟩ = some (.int .u64 (t.seq : Int)) ∧ w.cell? ⟨b, off + 2, none⟩ = some (.int .u64 (t.stamp : Int)) ∧
    w.cell? ⟨b, off + 3, none⟩ = some (.int .u64 (t.deps 0 : Int)) ∧ w.cell? ⟨b, off + 4, none⟩ = some (.int .u64 (t.deps 1 : Int)) ∧ w.cell? ⟨b, off + 5, none⟩ = some (.int .u64 (t.deps 2 : Int)) ∧ w.cell? ⟨b, off + 6, none⟩ = some (.int .u64 (t.deps 3 : Int)) ∧
    w.cell? ⟨b, off + 7, none⟩ = some (.int .u64 (t.deps 4 : Int)) ∧ w.cell? ⟨b, off + 8, none⟩ = some (.int .u64 (t.deps 5 : Int)) ∧ w.cell? ⟨b, off + 9, none⟩ = some (.int .u64 (t.deps 6 : Int)) ∧ w.cell? ⟨b, off + 10, none⟩ = some (.int .u64 (t.deps 7 : Int)) ∧
    w.cell? ⟨b, off + 11, none⟩ = some v
theorem XFix.gr {w w' : World} {b off : Nat} {t : TX} {v : Value} (h : XFix w b off t v) (g : Gr w w') : XFix w' b off t v := by
  obtain ⟨h1, h2, h3, h4, h5, h6, h7, h8, h9, h10, h11, h12⟩ := h
  exact ⟨g.cell h1, g.cell h2, g.cell h3, g.cell h4, g.cell h5, g.cell h6, g.cell h7, g.cell h8, g.cell h9, g.cell h10, g.cell h11, g.cell h12⟩
/-- A new box that holds a transaction. -/
theorem xbox (w : World) (t : TX) (v : Value) : ∃ W, W = w.alloc (.cells (tcs t v) 47) ∧ Gr w W ∧ XFix W w.heap.size 0 t v := by
  refine ⟨_, rfl, (Gr.refl w).alloc _, ?_⟩
  unfold XFix
  refine ⟨?_, ?_, ?_, ?_, ?_, ?_, ?_, ?_, ?_, ?_, ?_, ?_⟩ <;> (rw [World.cell?_alloc_at _ _ _ _ rfl]; rfl)
/-- The transaction t lies at this place. -/
def XCell (w : World) (b off : Nat) (t : TX) : Prop := ∃ v, TOV w v t.ops ∧ XFix w b off t v
theorem XCell.gr {w w' : World} {b off : Nat} {t : TX} (h : XCell w b off t) (g : Gr w w') : XCell w' b off t := by
  obtain ⟨v, h0, h1⟩ := h
  exact ⟨v, h0.gr g, h1.gr g⟩
/-- The slice value v reads as the transactions. -/
def XV (w : World) (v : Value) (L : List TX) : Prop :=
  ∃ A c, v = .slice A L.length c ∧ L.length ≤ c ∧ (c ≤ maxLen ∧ (A = Option.none → c = 0)) ∧ ∀ j (hj : j < L.length), ∃ b off, A = some ⟨b, off, none⟩ ∧ XCell w b (off + j * 12) L[j]
theorem XV.gr {w w' : World} {v : Value} {L : List TX} (h : XV w v L) (g : Gr w w') : XV w' v L := by
  obtain ⟨A, c, hv, h1, h2, h3⟩ := h
  refine ⟨A, c, hv, h1, h2, fun j hj => ?_⟩
  obtain ⟨b, off, ha, hc⟩ := h3 j hj
  exact ⟨b, off, ha, hc.gr g⟩
theorem xv_form {w : World} {v : Value} {L : List TX} (h : XV w v L) : ∃ A c, v = .slice A L.length c := by
  obtain ⟨A, c, hv, _⟩ := h
  exact ⟨A, c, hv⟩
def sameL : List TX → List TX → Bool
  | [], [] => true
  | f :: a, g :: b => sameT f g && sameL a b
  | _, _ => false
theorem sameL_len : ∀ {La Lb : List TX}, La.length ≠ Lb.length → sameL La Lb = false
  | [], [], h => absurd rfl h
  | [], _ :: _, _ => rfl
  | _ :: _, [], _ => rfl
  | f :: a, g :: b, h => by
    unfold sameL
    rw [sameL_len (La := a) (Lb := b) (fun e => h (by simp [e]))]
    simp
theorem sameL_at : ∀ {La Lb : List TX} (_ : La.length = Lb.length), (sameL La Lb = true ↔ ∀ j (h1 : j < La.length) (h2 : j < Lb.length), sameT La[j] Lb[j] = true)
  | [], [], _ => by simp [sameL]
  | f :: a, g :: b, h => by
    unfold sameL
    rw [Bool.and_eq_true, sameL_at (La := a) (Lb := b) (by simpa using h)]
    refine ⟨fun ⟨h1, h2⟩ j hj hj2 => ?_, fun h0 => ⟨h0 0 (by simp) (by simp), fun j hj hj2 => h0 (j + 1) (by simpa using hj) (by simpa using hj2)⟩⟩
    cases j with
    | zero => exact h1
    | succ j => exact h2 j (by simpa using hj) (by simpa using hj2)
theorem sameL_self (L : List TX) : sameL L L = true := (sameL_at rfl).2 fun _ _ _ => sameT_self _
theorem sameL_not {La Lb : List TX} (h : La.length = Lb.length) {j : Nat} (h1 : j < La.length) (h2 : j < Lb.length) (hn : sameT La[j] Lb[j] = false) : sameL La Lb = false := by
  rw [Bool.eq_false_iff]
  intro e
  rw [(sameL_at h).1 e j h1 h2] at hn
  cases hn
def XSameRel (La Lb : List TX) (W : World) (i : Value) (wr : World) : Prop :=
  ∃ k : Nat, k ≤ La.length ∧ i = .int .i64 k ∧ Gr W wr ∧ ∀ j (h1 : j < La.length) (h2 : j < Lb.length), j < k → sameT La[j] Lb[j] = true

end Go.Proofs.YtioldhhnkeakcaaDoor
