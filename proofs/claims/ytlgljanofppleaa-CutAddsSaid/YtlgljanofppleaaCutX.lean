/- The law CutJoins: the invariant of its regions that copy, join and store. -/
import Derived.Test.YtlgljanofppleaaCutO
import Derived.Test.YtlgljanofppleaaCutW
namespace Go.Proofs.Ytlgljanofppleaa
open Go.RowKit Go.Joins
set_option linter.unusedSimpArgs false
set_option linter.unusedVariables false

abbrev jtup (u : Nat → S3) (e : Nat) : Value := .tuple #[.agg (lcells u), .int .i64 (e : Int)]
theorem own_putCells_obj {B size n P : Nat} {t t' : TypeId} {v : Value} {xs : List Value} (ht : t ≠ t') : ∀ (cs : List Value) (o : Nat) (w : World), (∃ cs' fr, w.heap[P]? = some (.cells cs' t' fr)) → w.ownsRow B t size v n xs → (putCells w P o cs).ownsRow B t size v n xs
  | [], _, _, _, h => h
  | x :: r, o, w, ⟨cs', fr, ho⟩, h => own_putCells_obj ht r (o + 1) (w.setCell ⟨P, o, none⟩ x) ⟨_, _, block_setCell ho x⟩ (own_set_obj h ho ht x)
/-- Owned rows outlive a store into a logs' box. -/
theorem LN.put {w : World} {B P : Nat} {u x : Nat → S3} {l : LG} (h : LN w B u l) (hb : LBox w P x) (cs : List Value) (o : Nat) : LN (putCells w P o cs) B u l := fun i hi => by
  obtain ⟨R, h1, h2, h3⟩ := h i hi
  exact ⟨R, h1, own_putCells_obj (by decide) cs o w ⟨_, _, hb.box⟩ h2, fun r hr => own_putCells_obj (by decide) cs o w ⟨_, _, hb.box⟩ (h3 r hr)⟩
/-- Two copies, Join, an alloc, a store: what has been left. -/
structure IJ (W : World) (u v : Nat → S3) (a b J : LG) (e : Nat) (vals : Vals) (w : World) : Prop where
  gr : Gr W w
  x0 : ∀ y, vals 0 = some y → y = .agg (lcells u)
  x1 : vals 4 = none → ∀ y, vals 1 = some y → ∃ u', y = .agg (lcells u') ∧ LV w u' a
  x2 : ∀ y, vals 2 = some y → y = .agg (lcells v)
  x3 : vals 4 = none → ∀ y, vals 3 = some y → ∃ u', y = .agg (lcells u') ∧ LV w u' b
  x4 : ∀ y, vals 4 = some y → ∃ u', y = jtup u' e ∧ LN w W.heap.size u' J
  x5 : ∀ y, vals 5 = some y → vals 4 = some y
  x6 : ∀ y, vals 6 = some y → ∃ u', y = .agg (lcells u') ∧ vals 4 = some (jtup u' e)
  x7 : ∀ y, vals 7 = some y → y = .int .i64 (e : Int)
  x8 : ∀ y, vals 8 = some y → ∃ P, y = .pointer (some ⟨P, 0, none⟩) ∧ W.heap.size ≤ P ∧ (vals 9 = none → LBox w P Z3) ∧ (vals 9 ≠ none → ∃ u', LBox w P u' ∧ vals 4 = some (jtup u' e))
  s9 : vals 8 = none → vals 9 = none
  x10 : ∀ y, vals 10 = some y → y = .int .i64 (e : Int)
theorem IJ.next {W : World} {u v : Nat → S3} {a b J : LG} {e : Nat} {vals : Vals} {w w' : World} (h : IJ W u v a b J e vals w) (g : Gr w w') : IJ W u v a b J e vals w' :=
  ⟨h.gr.trans g, h.x0, fun n y hy => by obtain ⟨u', q1, q2⟩ := h.x1 n y hy; exact ⟨u', q1, q2.gr g⟩, h.x2, fun n y hy => by obtain ⟨u', q1, q2⟩ := h.x3 n y hy; exact ⟨u', q1, q2.gr g⟩,
    fun y hy => by obtain ⟨u', q1, q2⟩ := h.x4 y hy; exact ⟨u', q1, q2.mid (Mid.of_gr g)⟩, h.x5, h.x6, h.x7,
    fun y hy => by
      obtain ⟨P, q1, q2, q3, q4⟩ := h.x8 y hy
      exact ⟨P, q1, q2, fun n => (q3 n).gr g, fun n => by obtain ⟨u', r1, r2⟩ := q4 n; exact ⟨u', r1.gr g, r2⟩⟩, h.s9, h.x10⟩
theorem ij_start {w : World} {u v : Nat → S3} {a b J : LG} {e : Nat} : IJ w u v a b J e (fun _ => none) w.drew :=
  ⟨(Gr.refl _).drew, fun _ h => (by cases h), fun _ _ h => (by cases h), fun _ h => (by cases h), fun _ _ h => (by cases h), fun _ h => (by cases h), fun _ h => (by cases h), fun _ h => (by cases h), fun _ h => (by cases h), fun _ h => (by cases h), fun _ => rfl, fun _ h => (by cases h)⟩
section
variable {W : World} {u v : Nat → S3} {a b J : LG} {e : Nat} {vals : Vals} {w : World}
theorem IJ.up0 (h : IJ W u v a b J e vals w) : IJ W u v a b J e (vals.up 0 (.agg (lcells u))) w :=
  ⟨h.gr, fun y hy => (Option.some.inj hy).symm, h.x1, h.x2, h.x3, h.x4, h.x5, h.x6, h.x7, h.x8, h.s9, h.x10⟩
theorem IJ.up1 (h : IJ W u v a b J e vals w) {u' : Nat → S3} (hl : LV w u' a) : IJ W u v a b J e (vals.up 1 (.agg (lcells u'))) w :=
  ⟨h.gr, h.x0, fun n y hy => ⟨u', (Option.some.inj hy).symm, hl⟩, h.x2, h.x3, h.x4, h.x5, h.x6, h.x7, h.x8, h.s9, h.x10⟩
theorem IJ.up2 (h : IJ W u v a b J e vals w) : IJ W u v a b J e (vals.up 2 (.agg (lcells v))) w :=
  ⟨h.gr, h.x0, h.x1, fun y hy => (Option.some.inj hy).symm, h.x3, h.x4, h.x5, h.x6, h.x7, h.x8, h.s9, h.x10⟩
theorem IJ.up3 (h : IJ W u v a b J e vals w) {u' : Nat → S3} (hl : LV w u' b) : IJ W u v a b J e (vals.up 3 (.agg (lcells u'))) w :=
  ⟨h.gr, h.x0, h.x1, h.x2, fun n y hy => ⟨u', (Option.some.inj hy).symm, hl⟩, h.x4, h.x5, h.x6, h.x7, h.x8, h.s9, h.x10⟩
theorem IJ.up4 (h : IJ W u v a b J e vals w) (hn : vals 4 = none) {u' : Nat → S3} (hl : LN w W.heap.size u' J) : IJ W u v a b J e (vals.up 4 (jtup u' e)) w :=
  ⟨h.gr, h.x0, fun n => (by cases n), h.x2, fun n => (by cases n), fun y hy => ⟨u', (Option.some.inj hy).symm, hl⟩, fun y hy => (by have := h.x5 y hy; rw [hn] at this; cases this),
    fun y hy => (by obtain ⟨_, _, q⟩ := h.x6 y hy; rw [hn] at q; cases q), h.x7, fun y hy => (by
      obtain ⟨P, q1, q2, q3, q4⟩ := h.x8 y hy
      exact ⟨P, q1, q2, q3, fun n => by obtain ⟨_, _, q⟩ := q4 n; rw [hn] at q; cases q⟩), h.s9, h.x10⟩
theorem IJ.up5 (h : IJ W u v a b J e vals w) {y0 : Value} (h4 : vals 4 = some y0) : IJ W u v a b J e (vals.up 5 y0) w :=
  ⟨h.gr, h.x0, h.x1, h.x2, h.x3, h.x4, fun y hy => (by rw [← Option.some.inj hy]; exact h4), h.x6, h.x7, h.x8, h.s9, h.x10⟩
theorem IJ.up6 (h : IJ W u v a b J e vals w) {u' : Nat → S3} (h4 : vals 4 = some (jtup u' e)) : IJ W u v a b J e (vals.up 6 (.agg (lcells u'))) w :=
  ⟨h.gr, h.x0, h.x1, h.x2, h.x3, h.x4, h.x5, fun y hy => ⟨u', (Option.some.inj hy).symm, h4⟩, h.x7, h.x8, h.s9, h.x10⟩
theorem IJ.up7 (h : IJ W u v a b J e vals w) : IJ W u v a b J e (vals.up 7 (.int .i64 (e : Int))) w :=
  ⟨h.gr, h.x0, h.x1, h.x2, h.x3, h.x4, h.x5, h.x6, fun y hy => (Option.some.inj hy).symm, h.x8, h.s9, h.x10⟩
theorem IJ.up8 (h0 : IJ W u v a b J e vals w) (hn : vals 8 = none) : IJ W u v a b J e (vals.up 8 (.pointer (some ⟨w.heap.size, 0, none⟩))) (w.alloc (.cells (lcells fun _ => ⟨none, 0, 0⟩) 24)) := by
  have h := h0.next ((Gr.refl w).alloc (.cells (lcells fun _ => ⟨none, 0, 0⟩) 24))
  exact ⟨h.gr, h.x0, h.x1, h.x2, h.x3, h.x4, h.x5, h.x6, h.x7, fun y hy => ⟨w.heap.size, (Option.some.inj hy).symm, h0.gr.size, fun _ => ⟨heap_alloc _ _ _⟩, fun n => absurd (h.s9 hn) n⟩, fun n => (by cases n), h.x10⟩
theorem IJ.up9 (h : IJ W u v a b J e vals w) {P : Nat} (h8 : vals 8 = some (.pointer (some ⟨P, 0, none⟩))) (hn : vals 9 = none) {u' : Nat → S3} (h4 : vals 4 = some (jtup u' e)) : IJ W u v a b J e (vals.up 9 undef) (putCells w P 0 (lcells u').toList) := by
  obtain ⟨P', q1, q2, q3, -⟩ := h.x8 _ h8
  injection q1 with q1
  injection q1 with q1
  injection q1 with q1
  subst q1
  have hz := q3 hn
  have hb : LBox (putCells w P 0 (lcells u').toList) P u' := putL8 hz u'
  refine ⟨Gr.putCells q2 _ _ h.gr, h.x0, fun n => ?_, h.x2, fun n => ?_, fun y hy => ?_, h.x5, h.x6, h.x7, fun y hy => ?_, fun n => ?_, h.x10⟩
  · have n' : vals 4 = none := n
    rw [h4] at n'; cases n'
  · have n' : vals 4 = none := n
    rw [h4] at n'; cases n'
  · obtain ⟨u2, r1, r2⟩ := h.x4 y hy
    exact ⟨u2, r1, r2.put hz _ _⟩
  · have hy' : vals 8 = some y := hy
    rw [h8] at hy'
    exact ⟨P, (Option.some.inj hy').symm, q2, fun n => (by cases n), fun _ => ⟨u', hb, h4⟩⟩
  · have n' : vals 8 = none := n
    rw [h8] at n'; cases n'
theorem IJ.up10 (h : IJ W u v a b J e vals w) : IJ W u v a b J e (vals.up 10 (.int .i64 (e : Int))) w :=
  ⟨h.gr, h.x0, h.x1, h.x2, h.x3, h.x4, h.x5, h.x6, h.x7, h.x8, h.s9, fun y hy => (Option.some.inj hy).symm⟩
end
end Go.Proofs.Ytlgljanofppleaa
