/- Join: its answer (joinR); walks: the document's Join. -/
import Derived.Test.YthbkbpodiebhgaaCutG
import Derived.Test.YthbkbpodiebhgaaCutP
import Derived.Test.YthbkbpodiebhgaaCutS
import Derived.Test.YthbkbpodiebhgaaCutU
namespace Go.Proofs.Ythbkbpodiebhgaa
open Go.RowKit Go.Joins
set_option linter.unusedSimpArgs false
set_option linter.unusedVariables false

theorem elemTxn : Try.prog.underlying 22 = some (.slice (Try.prog.elem 22)) := by kernel_rfl
theorem sizeTxn : ∀ W : World, (sizeOf (Try.prog.elem 22)).run Try.prog W = .ok 12 W := fun W => by kernel_rfl
theorem XV.take {w : World} {A : Option Addr} {n c k : Nat} {L : List TX} (h : XV w (.slice A n c) L) (hk : k ≤ n) : XV w (.slice A k c) (L.take k) := by
  obtain ⟨A', c', hv, h1, h2, h3⟩ := h
  injection hv with e1 e2 e3
  subst e1 e2 e3
  have hl : (L.take k).length = k := by rw [List.length_take]; omega
  refine ⟨A, c, by rw [hl], by omega, h2, fun j hj => ?_⟩
  obtain ⟨b, off, ha, hc⟩ := h3 j (by omega)
  exact ⟨b, off, ha, by rw [List.getElem_take]; exact hc⟩
/-- Are the logs the same as far as both reach? -/
def okJ (a b : LG) : Bool := (List.range 8).all fun i => sameL ((a i).take (b i).length) ((b i).take (a i).length)
theorem okJ_iff {a b : LG} : okJ a b = true ↔ ∀ i, i < 8 → sameL ((a i).take (b i).length) ((b i).take (a i).length) = true := by simp [okJ]
theorem okJ_no {a b : LG} {i : Nat} (hi : i < 8) (h : sameL ((a i).take (b i).length) ((b i).take (a i).length) = false) : okJ a b = false := by
  rw [Bool.eq_false_iff]
  intro e
  rw [okJ_iff.1 e i hi] at h
  cases h
/-- What Join answers: its error, its logs. -/
def joinR (a b : LG) : Nat × LG :=
  if checkE a = 0 then (if checkE b = 0 then (if okJ a b = true then (0, jnL a b) else (91, nilL)) else (checkE b, nilL)) else (checkE a, nilL)
theorem fitC_jn {a b : LG} (ha : FitC a) (hb : FitC b) : FitC (jnL a b) := by
  refine ⟨fun i hi => ?_, fun i t hi ht => ?_⟩
  · unfold jnL
    split
    · exact hb.len i hi
    · exact ha.len i hi
  · unfold jnL at ht
    split at ht
    · exact hb.tx i t hi ht
    · exact ha.tx i t hi ht
theorem boxesJn (u v : Nat → S3) (w : World) : ∃ W, W = ((w.alloc (.cells (lcells u) 24)).alloc (.cells (lcells v) 24)).alloc (.cells (lcells fun _ => ⟨none, 0, 0⟩) 24) ∧ Gr w W ∧ W.heap.size = w.heap.size + 3 ∧
    LBox W w.heap.size u ∧ LBox W (w.heap.size + 1) v ∧ LBox W (w.heap.size + 1 + 1) Z3 := by
  obtain ⟨W, hW, hg, hs, hA, hB⟩ := boxesLL u v w
  rw [← hW]
  have h1 := heap_alloc W (lcells fun _ => ⟨none, 0, 0⟩) 24
  rw [hs] at h1
  exact ⟨_, rfl, hg.alloc _, by simp [hs], hA.gr ((Gr.refl _).alloc _), hB.gr ((Gr.refl _).alloc _), ⟨h1⟩⟩
/-- What Join's rounds leave: of the first k logs the longer one stands in the answer. -/
structure JrR (w : World) (u v : Nat → S3) (a b : LG) (P : Nat) (k : Nat) (us : Nat → S3) (wr : World) : Prop where
  xa : LBox wr w.heap.size u
  xb : LBox wr (w.heap.size + 1) v
  xz : LBox wr (w.heap.size + 1 + 1) Z3
  xo : LBox wr P us
  lv : ∀ j, j < k → us j = if (a j).length < (b j).length then v j else u j
  ok : ∀ j, j < k → sameL ((a j).take (b j).length) ((b j).take (a j).length) = true
  gr : Gr w wr
theorem JrR.next {w wr w' : World} {u v us : Nat → S3} {a b : LG} {P k : Nat} (h : JrR w u v a b P k us wr) (g : Gr wr w') : JrR w u v a b P k us w' :=
  ⟨h.xa.gr g, h.xb.gr g, h.xz.gr g, h.xo.gr g, h.lv, h.ok, h.gr.trans g⟩
theorem JrR.put {w wr : World} {u v us : Nat → S3} {a b : LG} {P k : Nat} (h : JrR w u v a b P k us wr) (hP : w.heap.size + 3 ≤ P) {j : Nat} (hj : k ≤ j) (h8 : j < 8) (A : Option Addr) (n c : Nat) : JrR w u v a b P k (updS us j ⟨A, n, c⟩) (wr.setCell ⟨P, j, none⟩ (.slice A n c)) :=
  ⟨h.xa.far (by simp only []; omega) _, h.xb.far (by simp only []; omega) _, h.xz.far (by simp only []; omega) _, h.xo.set h8 _ _ _, fun i hi => by
    show (if i = j then _ else us i) = _
    rw [if_neg (by omega)]; exact h.lv i hi, h.ok, h.gr.setCell (by show w.heap.size ≤ P; omega) _⟩
theorem JrR.more {w wr : World} {u v us : Nat → S3} {a b : LG} {P k : Nat} (h : JrR w u v a b P k us wr) (e : us k = if (a k).length < (b k).length then v k else u k) (hs : sameL ((a k).take (b k).length) ((b k).take (a k).length) = true) : JrR w u v a b P (k + 1) us wr :=
  ⟨h.xa, h.xb, h.xz, h.xo, fun j hj => by
    by_cases q : j = k
    · rw [q]; exact e
    · exact h.lv j (by omega), fun j hj => by
    by_cases q : j = k
    · rw [q]; exact hs
    · exact h.ok j (by omega), h.gr⟩
theorem JrR.end {w wr : World} {u v us : Nat → S3} {a b : LG} {P : Nat} (h : JrR w u v a b P 8 us wr) (ha : LV w u a) (hb : LV w v b) : LV wr us (jnL a b) := fun i hi => by
  rw [h.lv i hi]
  unfold jnL
  by_cases e : (a i).length < (b i).length
  · rw [if_pos e, if_pos e]; exact (hb i hi).gr h.gr
  · rw [if_neg e, if_neg e]; exact (ha i hi).gr h.gr

end Go.Proofs.Ythbkbpodiebhgaa
