/- Walks: the program's Close. -/
import Derived.Test.YthbkbpodiebhgaaCutI
import Derived.Deep.LoopGhost
namespace Go.Proofs.Ythbkbpodiebhgaa
open Go.RowKit Go.Joins

def sumTo (v : Nat → Nat) : Nat → Nat
  | 0 => 0
  | k + 1 => sumTo v k + v k
def sumV (v : Nat → Nat) : Nat := sumTo v 8
theorem sumTo_past {v : Nat → Nat} {k x : Nat} : ∀ {n : Nat}, n ≤ k → sumTo (upd v k x) n = sumTo v n
  | 0, _ => rfl
  | n + 1, h => by
    show sumTo (upd v k x) n + upd v k x n = sumTo v n + v n
    rw [sumTo_past (n := n) (by omega)]
    unfold upd
    rw [if_neg (by omega)]
theorem sumTo_upd {v : Nat → Nat} {k x : Nat} : ∀ {n : Nat}, k < n → sumTo (upd v k x) n + v k = sumTo v n + x
  | 0, h => by omega
  | n + 1, h => by
    show sumTo (upd v k x) n + upd v k x n + v k = sumTo v n + v n + x
    by_cases e : k = n
    · subst e
      rw [sumTo_past (Nat.le_refl _)]
      unfold upd
      rw [if_pos rfl]
      omega
    · have ih := sumTo_upd (v := v) (k := k) (x := x) (n := n) (by omega)
      have : upd v k x n = v n := if_neg (fun q => e q.symm)
      rw [this]
      omega
/-- The cut's last transaction of member j, and all ahead of it, depend on nothing beyond the cut. -/
def fine (l : LG) (v : Nat → Nat) (j : Nat) : Prop := v j = 0 ∨ leqB (needV (l j) (v j)) v = true
theorem close_done {l : LG} {v : Nat → Nat} (h : ∀ j, j < 8 → fine l v j) (hs : leqB v (sizeV l) = true) : closedP l v := by
  refine ⟨hs, fun i k t hi hk ht => ?_⟩
  rcases h i hi with h0 | h0
  · omega
  · exact (needV_le (lq hs hi)).1 h0 k t hk ht
theorem close_step {l : LG} {v0 v : Nat → Nat} {k : Nat} (hs : leqB v (sizeV l) = true) (hk : k < 8) (h : ∀ u, closedP l u → leqB u v0 = true → leqB u v = true) (hn : leqB (needV (l k) (v k)) v = false) : ∀ u, closedP l u → leqB u v0 = true → leqB u (upd v k (v k - 1)) = true := by
  intro u hu h0
  have h1 := h u hu h0
  refine lq_of fun j hj => ?_
  unfold upd
  by_cases e : j = k
  · subst e
    rw [if_pos rfl]
    have h2 := lq h1 hj
    rcases Nat.lt_or_ge (u j) (v j) with q | q
    · omega
    · exfalso
      have e2 : u j = v j := by omega
      have : leqB (needV (l j) (v j)) v = true := (needV_le (lq hs hj)).2 fun d t hd ht => lq_trans (hu.2 j d t hj (by omega) ht) h1
      rw [hn] at this
      cases this
  · rw [if_neg e]
    exact lq h1 hj
theorem boxesCl (u : Nat → S3) (v : Nat → Nat) (w : World) : ∃ W, W = ((w.alloc (.cells (lcells u) 24)).alloc (.cells (vcells v) 27)).alloc (.cells V0 27) ∧ Gr w W ∧ W.heap.size = w.heap.size + 3 ∧
    LBox W w.heap.size u ∧ VBox W (w.heap.size + 1) v ∧ VBox W (w.heap.size + 1 + 1) (fun _ => 0) := by
  obtain ⟨W, hW, hg, hs, hL, hV⟩ := boxesLV u v w
  rw [← hW]
  have h1 := heap_alloc W V0 27
  rw [hs] at h1
  exact ⟨_, rfl, hg.alloc _, by simp [hs], hL.gr ((Gr.refl _).alloc _), hV.gr ((Gr.refl _).alloc _), ⟨h1⟩⟩
/-- The cut is within the first one, and no closed cut within that is above it. -/
structure ClI (l : LG) (v0 v : Nat → Nat) : Prop where
  le : leqB v v0 = true
  up : ∀ u, closedP l u → leqB u v0 = true → leqB u v = true
/-- Eight cells of a vector at this place. -/
def VCo (w : World) (b o : Nat) (a : Nat → Nat) : Prop := w.cell? ⟨b, o, none⟩ = some (.int .u64 (a 0 : Int)) ∧ w.cell? ⟨b, o + 1, none⟩ = some (.int .u64 (a 1 : Int)) ∧ w.cell? ⟨b, o + 2, none⟩ = some (.int .u64 (a 2 : Int)) ∧ w.cell? ⟨b, o + 3, none⟩ = some (.int .u64 (a 3 : Int)) ∧ w.cell? ⟨b, o + 4, none⟩ = some (.int .u64 (a 4 : Int)) ∧ w.cell? ⟨b, o + 5, none⟩ = some (.int .u64 (a 5 : Int)) ∧ w.cell? ⟨b, o + 6, none⟩ = some (.int .u64 (a 6 : Int)) ∧ w.cell? ⟨b, o + 7, none⟩ = some (.int .u64 (a 7 : Int))
theorem VCo.gr {w w' : World} {b o : Nat} {a : Nat → Nat} (h : VCo w b o a) (g : Gr w w') : VCo w' b o a := by
  obtain ⟨h0, h1, h2, h3, h4, h5, h6, h7⟩ := h
  exact ⟨g.cell h0, g.cell h1, g.cell h2, g.cell h3, g.cell h4, g.cell h5, g.cell h6, g.cell h7⟩
theorem vco_row {w : World} {B g n c : Nat} {f : Nat → Nat → Nat} (h : w.ownsRow B 27 8 (.slice (some ⟨g, 0, none⟩) n c) n (vrows f n)) {k : Nat} (hk : k < n) : VCo w g (k * 8) (f k) :=
  ⟨vrow_cells h hk (r := 0) (by decide), vrow_cells h hk (r := 1) (by decide), vrow_cells h hk (r := 2) (by decide), vrow_cells h hk (r := 3) (by decide), vrow_cells h hk (r := 4) (by decide), vrow_cells h hk (r := 5) (by decide), vrow_cells h hk (r := 6) (by decide), vrow_cells h hk (r := 7) (by decide)⟩
theorem mt_le (v : Nat → Nat) (l : LG) : leqB (mt v (sizeV l)) (sizeV l) = true := lq_of fun _ _ => Nat.min_le_right _ _

end Go.Proofs.Ythbkbpodiebhgaa
