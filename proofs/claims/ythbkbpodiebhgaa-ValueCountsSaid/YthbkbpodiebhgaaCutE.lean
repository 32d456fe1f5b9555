/- Walks: the program's Copy of a transaction. -/
import Derived.Test.YthbkbpodiebhgaaCutD
namespace Go.Proofs.Ythbkbpodiebhgaa
open Go.RowKit Go.Joins

theorem own_blk {w : World} {B : Nat} {t : TypeId} {size n c : Nat} {A : Option Addr} {xs : List Value} (h : w.ownsRow B t size (.slice A n c) n xs) (hn : 0 < n) : ∃ g, A = some ⟨g, 0, none⟩ := by
  rcases h.2 with ⟨hh, h2⟩ | ⟨g', cap, cur, hh, hb, hg, hn, hm, hcs, ht⟩
  · injection hh with e1 e2 e3
    omega
  · injection hh with e1 e2 e3
    exact ⟨g', e1⟩
theorem own_free {w : World} {B : Nat} {t : TypeId} {size g n c : Nat} {xs : List Value} (h : w.ownsRow B t size (.slice (some ⟨g, 0, none⟩) n c) n xs) (j : Nat) : w.frozen? ⟨g, j, none⟩ = false := by
  rcases h.2 with ⟨hh, h2⟩ | ⟨g', cap, cur, hh, hb, hg, hn, hm, hcs, ht⟩
  · cases hh
  · injection hh with e1 e2 e3
    injection e1 with e1
    injection e1 with e1
    subst e1
    exact unfrozen_of_block hg j
theorem own_cell {w : World} {B : Nat} {t : TypeId} {size g n c : Nat} {xs : List Value} (h : w.ownsRow B t size (.slice (some ⟨g, 0, none⟩) n c) n xs) {j : Nat} {u : Value} (hj : xs[j]? = some u) : w.cell? ⟨g, j, none⟩ = some u := by
  obtain ⟨A, c', hv, h1, h2, h3, h4⟩ := own_sl h
  injection hv with e1 e2 e3
  obtain ⟨b, off, ha, hc⟩ := h4 j u hj
  rw [← e1] at ha
  injection ha with ha
  injection ha with e4 e5
  subst e4 e5
  rw [Nat.zero_add] at hc
  exact hc
/-- A value that lies there already, stored again. -/
theorem own_again {w : World} {B : Nat} {t : TypeId} {size g n c : Nat} {xs : List Value} (h : w.ownsRow B t size (.slice (some ⟨g, 0, none⟩) n c) n xs) {j : Nat} {u : Value} (hj : xs[j]? = some u) : (w.setCell ⟨g, j, none⟩ u).ownsRow B t size (.slice (some ⟨g, 0, none⟩) n c) n xs ∧ Kp (some g) w (w.setCell ⟨g, j, none⟩ u) := by
  obtain ⟨h1, h2⟩ := h.stored j u
  refine ⟨?_, h2⟩
  have : xs.set j u = xs := by
    refine List.ext_getElem? fun i => ?_
    by_cases e : j = i
    · subst e
      rw [List.getElem?_set_self (List.getElem?_eq_some_iff.1 hj).1, hj]
    · rw [List.getElem?_set_ne e]
  rw [this] at h1
  exact h1
theorem tocells_at {L : List TO} {k : Nat} (hk : k < L.length) : (tocells L)[k * 4]? = some (.int .i64 L[k].kind) ∧ (tocells L)[k * 4 + 1]? = some (.string L[k].key) ∧ (tocells L)[k * 4 + 2]? = some (.string L[k].elem) ∧ (tocells L)[k * 4 + 3]? = some (.int .i64 L[k].n) := by
  have at_ : ∀ r, r < 4 → (tocells L)[k * 4 + r]? = (tocell L[k])[r]? := fun r hr => rows_at tocell 4 tocell_len L k r hk hr
  exact ⟨at_ 0 (by decide), at_ 1 (by decide), at_ 2 (by decide), at_ 3 (by decide)⟩
/-- What Copy has in memory. -/
structure CpS (w : World) (t : TX) (A : Option Addr) (n c : Nat) (wr : World) : Prop where
  b : wr.heap[w.heap.size]? = some (.cells (tcs t (.slice A n c)) 44 (0, 0))
  r : wr.heap[w.heap.size + 1]? = some (.cells zeroX 44 (0, 0))
  row : wr.ownsRow (w.heap.size + 2) 41 4 (.slice A n c) n (tocells t.ops)
  gr : Gr w wr
theorem CpS.next {w : World} {t : TX} {A : Option Addr} {n c : Nat} {a b : World} (h : CpS w t A n c a) (g : Gr a b) : CpS w t A n c b := ⟨gr_obj g h.b, gr_obj g h.r, own_gr h.row g, h.gr.trans g⟩
theorem CpS.again {w : World} {t : TX} {g n c : Nat} {a : World} (h : CpS w t (some ⟨g, 0, none⟩) n c a) {j : Nat} {u : Value} (hj : (tocells t.ops)[j]? = some u) : CpS w t (some ⟨g, 0, none⟩) n c (a.setCell ⟨g, j, none⟩ u) := by
  obtain ⟨h1, h2⟩ := own_again h.row hj
  have hg : w.heap.size + 2 ≤ g := (own_len h.row).2.2.1
  exact ⟨kp_obj h2 h.b (fun e => by injection e with e; omega), kp_obj h2 h.r (fun e => by injection e with e; omega), h1, h.gr.setCell (by show _ ≤ g; omega) _⟩
theorem CpS.slot {w : World} {t : TX} {A : Option Addr} {n c : Nat} {a : World} (h : CpS w t A n c a) : a.cell? ⟨w.heap.size, 11, none⟩ = some (.slice A n c) := by rw [cell_of_block h.b]; rfl

end Go.Proofs.Ythbkbpodiebhgaa
