/- Regions that read, call, make boxes and store into them, in any order: one invariant for all of them. Walks: slices.Clip of transactions; the program's Add. -/
import Derived.Test.YtnjmgknicffcbaaGreatDoorZb33
import Derived.Test.YtnjmgknicffcbaaGreatDoorZb34
import Derived.ArgAppend
namespace Go.Proofs.YtnjmgknicffcbaaGreatDoor
open Go.RowKit Go.Joins

/-- All blocks of which the type is not a box's type stay as they are. -/
def Keeps (bt : TypeId → Bool) (w w' : World) : Prop := ∀ (b : Nat) (cs : Array Value) (t : TypeId) (fr : Nat × Nat), bt t = false → w.heap[b]? = some (.cells cs t fr) → w'.heap[b]? = some (.cells cs t fr)
theorem Keeps.refl (bt : TypeId → Bool) (w : World) : Keeps bt w w := fun _ _ _ _ _ h => h
theorem Keeps.trans {bt : TypeId → Bool} {a b c : World} (h : Keeps bt a b) (k : Keeps bt b c) : Keeps bt a c := fun i cs t fr ht hb => k i cs t fr ht (h i cs t fr ht hb)
theorem Keeps.of_gr {bt : TypeId → Bool} {a b : World} (g : Gr a b) : Keeps bt a b := fun i cs t fr _ hb => by
  rw [g.block i (Array.getElem?_eq_some_iff.1 hb).1]
  exact hb
theorem own_keeps {bt : TypeId → Bool} {w w' : World} {B size n : Nat} {t : TypeId} {v : Value} {xs : List Value} (h : w.ownsRow B t size v n xs) (ht : bt t = false) (k : Keeps bt w w') : w'.ownsRow B t size v n xs := by
  refine ⟨h.1, ?_⟩
  rcases h.2 with h0 | ⟨g, cap, cur, hv, hb, hg, hr⟩
  · exact .inl h0
  · exact .inr ⟨g, cap, cur, hv, hb, k g cur t (0, 0) ht hg, hr⟩
/-- The cells that a stored value fills. -/
def storeCells : Value → Array Value
  | .agg c => c
  | v => #[v]
theorem putCells_far : ∀ (cs : List Value) (o : Nat) (w : World) (P b : Nat), b ≠ P → (putCells w P o cs).heap[b]? = w.heap[b]?
  | [], _, _, _, _, _ => rfl
  | x :: r, o, w, P, b, h => by
    show (putCells (w.setCell ⟨P, o, none⟩ x) P (o + 1) r).heap[b]? = _
    rw [putCells_far r (o + 1) _ P b h]
    exact Go.Deep.blk_setCell_other _ _ _ _ h
theorem putCells_at : ∀ (cs : List Value) (o : Nat) (w : World) (P : Nat) (z : List Value) (t : TypeId) (fr : Nat × Nat), w.heap[P]? = some (.cells z.toArray t fr) → (putCells w P o cs).heap[P]? = some (.cells (setFrom z o cs).toArray t fr)
  | [], _, _, _, _, _, _, h => h
  | x :: r, o, w, P, z, t, fr, h => by
    show (putCells (w.setCell ⟨P, o, none⟩ x) P (o + 1) r).heap[P]? = _
    refine putCells_at r (o + 1) _ P (z.set o x) t fr ?_
    rw [block_setCell h x]
    simp
theorem setFrom_all (xs cs : List Value) (h : cs.length = xs.length) : setFrom xs 0 cs = cs := by
  refine List.ext_getElem? fun j => ?_
  rw [setFrom_at cs xs 0 j (by omega)]
  by_cases hj : j < cs.length
  · rw [if_pos ⟨Nat.zero_le _, by omega⟩]; rfl
  · rw [if_neg (by omega), List.getElem?_eq_none (by omega), List.getElem?_eq_none (by omega)]
theorem putCells_full {w : World} {P : Nat} {z c : Array Value} {t : TypeId} {fr : Nat × Nat} (h : w.heap[P]? = some (.cells z t fr)) (hs : c.size = z.size) : (putCells w P 0 c.toList).heap[P]? = some (.cells c t fr) := by
  rw [putCells_at c.toList 0 w P z.toList t fr h, setFrom_all _ _ (by simpa using hs)]
theorem putCells_keeps {bt : TypeId → Bool} {w : World} {P : Nat} {z : Array Value} {t : TypeId} {fr : Nat × Nat} (h : w.heap[P]? = some (.cells z t fr)) (ht : bt t = true) (cs : List Value) (o : Nat) : Keeps bt w (putCells w P o cs) := fun b cs' t' fr' ht' hb => by
  by_cases e : b = P
  · subst e
    rw [h] at hb
    injection hb with hb
    injection hb with _ hb
    rw [hb, ht'] at ht
    cases ht
  · rw [putCells_far cs o w P b e]; exact hb
/-- What a region has left: of the values each its predicate, which keeps when boxes change; of the boxes (alloc, store, source) each its cells. -/
structure RI (bt : TypeId → Bool) (W : World) (Q : Nat → World → Value → Prop) (bl : List (Nat × Nat × Nat)) (ty : Nat → TypeId) (z : Nat → Array Value) (vals : Vals) (w : World) : Prop where
  gr : Gr W w
  st : ∀ k y w1 w2, Q k w1 y → Keeps bt w1 w2 → Q k w2 y
  ok : ∀ k y, vals k = some y → Q k w y
  box : ∀ b ∈ bl, ∀ y, vals b.1 = some y → ∃ P, y = .pointer (some ⟨P, 0, none⟩) ∧ W.heap.size ≤ P ∧ (vals b.2.1 = none → w.heap[P]? = some (.cells (z b.1) (ty b.1) (0, 0))) ∧ (vals b.2.1 ≠ none → ∃ v, vals b.2.2 = some v ∧ w.heap[P]? = some (.cells (storeCells v) (ty b.1) (0, 0)))
  dis : ∀ b ∈ bl, ∀ b' ∈ bl, b.1 ≠ b'.1 → ∀ P, vals b.1 = some (.pointer (some ⟨P, 0, none⟩)) → vals b'.1 ≠ some (.pointer (some ⟨P, 0, none⟩))
  sa : ∀ b ∈ bl, vals b.1 = none → vals b.2.1 = none
section
variable {bt : TypeId → Bool} {W : World} {Q : Nat → World → Value → Prop} {bl : List (Nat × Nat × Nat)} {ty : Nat → TypeId} {z : Nat → Array Value} {vals : Vals} {w : World}
theorem ri_start {W0 : World} (hst : ∀ k y w1 w2, Q k w1 y → Keeps bt w1 w2 → Q k w2 y) (g : Gr W W0) : RI bt W Q bl ty z (fun _ => none) W0.drew :=
  ⟨g.drew, hst, fun _ _ h => (by cases h), fun _ _ _ h => (by cases h), fun _ _ _ _ _ _ h => (by cases h), fun _ _ _ => rfl⟩
theorem RI.next (h : RI bt W Q bl ty z vals w) {w' : World} (g : Gr w w') : RI bt W Q bl ty z vals w' :=
  ⟨h.gr.trans g, h.st, fun k y hy => h.st k y _ _ (h.ok k y hy) (Keeps.of_gr g), fun b hb y hy => by
    obtain ⟨P, q1, q2, q3, q4⟩ := h.box b hb y hy
    exact ⟨P, q1, q2, fun n => gr_obj g (q3 n), fun n => by obtain ⟨v, r1, r2⟩ := q4 n; exact ⟨v, r1, gr_obj g r2⟩⟩, h.dis, h.sa⟩
/-- A value that is no box. -/
theorem RI.val (h : RI bt W Q bl ty z vals w) {k : Nat} {y : Value} (hn : vals k = none) (hk : (bl.all fun b => decide (b.1 ≠ k) && decide (b.2.1 ≠ k)) = true) (hq : Q k w y) : RI bt W Q bl ty z (vals.up k y) w := by
  have hk1 : ∀ b ∈ bl, b.1 ≠ k ∧ b.2.1 ≠ k := fun b hb => by
    have := List.all_eq_true.1 hk b hb
    rw [Bool.and_eq_true, decide_eq_true_eq, decide_eq_true_eq] at this
    exact this
  refine ⟨h.gr, h.st, fun j x hx => ?_, fun b hb x hx => ?_, fun b hb b' hb' hne P hp => ?_, fun b hb hz => ?_⟩
  · by_cases e : j = k
    · subst e
      rw [Vals.up_at] at hx
      injection hx with hx
      rw [← hx]; exact hq
    · rw [Vals.up_ne vals y e] at hx
      exact h.ok j x hx
  · rw [Vals.up_ne vals y (hk1 b hb).1] at hx
    obtain ⟨P, q1, q2, q3, q4⟩ := h.box b hb x hx
    rw [Vals.up_ne vals y (hk1 b hb).2]
    refine ⟨P, q1, q2, q3, fun n => ?_⟩
    obtain ⟨v, r1, r2⟩ := q4 n
    refine ⟨v, ?_, r2⟩
    rw [Vals.up_ne vals y (fun e => by rw [e, hn] at r1; cases r1)]
    exact r1
  · rw [Vals.up_ne vals y (hk1 b hb).1] at hp
    rw [Vals.up_ne vals y (hk1 b' hb').1]
    exact h.dis b hb b' hb' hne P hp
  · rw [Vals.up_ne vals y (hk1 b hb).1] at hz
    rw [Vals.up_ne vals y (hk1 b hb).2]
    exact h.sa b hb hz
/-- A new box. -/
theorem RI.new (h0 : RI bt W Q bl ty z vals w) {k : Nat} (hn : vals k = none) (hk : (bl.all fun b => decide (b.2.1 ≠ k) && decide (b.2.2 ≠ k)) = true) {c : Array Value} {t : TypeId} (hc : z k = c) (ht : ty k = t) (hq : ∀ w1 P, Q k w1 (.pointer (some ⟨P, 0, none⟩))) :
    RI bt W Q bl ty z (vals.up k (.pointer (some ⟨w.heap.size, 0, none⟩))) (w.alloc (.cells c t)) := by
  subst hc ht
  have h := h0.next ((Gr.refl w).alloc (.cells (z k) (ty k)))
  have hk1 : ∀ b ∈ bl, b.2.1 ≠ k ∧ b.2.2 ≠ k := fun b hb => by
    have := List.all_eq_true.1 hk b hb
    rw [Bool.and_eq_true, decide_eq_true_eq, decide_eq_true_eq] at this
    exact this
  have old : ∀ b ∈ bl, ∀ P, vals b.1 = some (.pointer (some ⟨P, 0, none⟩)) → P < w.heap.size := fun b hb P hp => by
    obtain ⟨P', q1, q2, q3, q4⟩ := h0.box b hb _ hp
    injection q1 with q1
    injection q1 with q1
    injection q1 with q1
    subst q1
    by_cases e : vals b.2.1 = none
    · exact (Array.getElem?_eq_some_iff.1 (q3 e)).1
    · obtain ⟨v, _, r⟩ := q4 e
      exact (Array.getElem?_eq_some_iff.1 r).1
  refine ⟨h.gr, h.st, fun j x hx => ?_, fun b hb x hx => ?_, fun b hb b' hb' hne P hp => ?_, fun b hb hz => ?_⟩
  · by_cases e : j = k
    · subst e
      rw [Vals.up_at] at hx
      injection hx with hx
      rw [← hx]; exact hq _ _
    · rw [Vals.up_ne vals _ e] at hx
      exact h.ok j x hx
  · rw [Vals.up_ne vals _ (hk1 b hb).1, Vals.up_ne vals _ (hk1 b hb).2]
    by_cases e : b.1 = k
    · rw [e, Vals.up_at] at hx
      injection hx with hx
      refine ⟨w.heap.size, hx.symm, h0.gr.size, fun _ => ?_, fun n => absurd (h.sa b hb (by rw [e]; exact hn)) n⟩
      rw [e]
      exact heap_alloc w (z k) (ty k)
    · rw [Vals.up_ne vals _ e] at hx
      exact h.box b hb x hx
  · by_cases e : b.1 = k
    · rw [e, Vals.up_at] at hp
      injection hp with hp
      injection hp with hp
      injection hp with hp
      injection hp with hp
      rw [Vals.up_ne vals _ (fun q => hne (by rw [e, q]))]
      intro q
      have := old b' hb' P q
      omega
    · rw [Vals.up_ne vals _ e] at hp
      by_cases e' : b'.1 = k
      · rw [e', Vals.up_at]
        intro q
        injection q with q
        injection q with q
        injection q with q
        injection q with q
        have := old b hb P hp
        omega
      · rw [Vals.up_ne vals _ e']
        exact h.dis b hb b' hb' hne P hp
  · by_cases e : b.1 = k
    · rw [e, Vals.up_at] at hz; cases hz
    · rw [Vals.up_ne vals _ e] at hz
      rw [Vals.up_ne vals _ (hk1 b hb).1]
      exact h.sa b hb hz
/-- A store into a box. -/
theorem RI.put (h : RI bt W Q bl ty z vals w) {a k s P : Nat} {v : Value} (hb : (a, k, s) ∈ bl) (hn : vals k = none) (hk : (bl.all fun b => decide (b.1 ≠ k) && decide (b.2.2 ≠ k) && (decide (b.2.1 ≠ k) || decide (b = (a, k, s)))) = true)
    (hu : (bl.all fun b => decide (b.1 ≠ a) || decide (b = (a, k, s))) = true) (ht : bt (ty a) = true)
    (ha : vals a = some (.pointer (some ⟨P, 0, none⟩))) (hs : vals s = some v) (hz : (storeCells v).size = (z a).size) (hq : ∀ w1, Q k w1 undef) :
    RI bt W Q bl ty z (vals.up k undef) (putCells w P 0 (storeCells v).toList) := by
  have hk1 : ∀ b ∈ bl, b.1 ≠ k ∧ b.2.2 ≠ k ∧ (b.2.1 ≠ k ∨ b = (a, k, s)) := fun b hb => by
    have := List.all_eq_true.1 hk b hb
    rw [Bool.and_eq_true, Bool.and_eq_true, Bool.or_eq_true, decide_eq_true_eq, decide_eq_true_eq, decide_eq_true_eq, decide_eq_true_eq] at this
    exact ⟨this.1.1, this.1.2, this.2⟩
  have hu1 : ∀ b ∈ bl, b.1 ≠ a ∨ b = (a, k, s) := fun b hb => by
    have := List.all_eq_true.1 hu b hb
    rw [Bool.or_eq_true, decide_eq_true_eq, decide_eq_true_eq] at this
    exact this
  obtain ⟨P', q1, q2, q3, q4⟩ := h.box _ hb _ ha
  injection q1 with q1
  injection q1 with q1
  injection q1 with q1
  subst q1
  have hbox := q3 hn
  have kp : Keeps bt w (putCells w P 0 (storeCells v).toList) := putCells_keeps hbox ht _ _
  refine ⟨Gr.putCells q2 _ _ h.gr, h.st, fun j x hx => ?_, fun b hb2 x hx => ?_, fun b hb b' hb' hne P hp => ?_, fun b hb2 hz => ?_⟩
  · by_cases e : j = k
    · subst e
      rw [Vals.up_at] at hx
      injection hx with hx
      rw [← hx]; exact hq _
    · rw [Vals.up_ne vals _ e] at hx
      exact h.st j x _ _ (h.ok j x hx) kp
  · rw [Vals.up_ne vals _ (hk1 b hb2).1] at hx
    rw [Vals.up_ne vals _ (hk1 b hb2).2.1]
    rcases hu1 b hb2 with hne | rfl
    · have hne2 : b.2.1 ≠ k := by
        rcases (hk1 b hb2).2.2 with q | q
        · exact q
        · rw [q] at hne; exact absurd rfl hne
      rw [Vals.up_ne vals _ hne2]
      obtain ⟨R, r1, r2, r3, r4⟩ := h.box b hb2 x hx
      have hRP : R ≠ P := fun e => by
        rw [e] at r1
        rw [r1] at hx
        exact h.dis b hb2 _ hb hne P hx ha
      exact ⟨R, r1, r2, fun n => by rw [putCells_far _ _ _ _ _ hRP]; exact r3 n, fun n => by obtain ⟨u, s1, s2⟩ := r4 n; exact ⟨u, s1, by rw [putCells_far _ _ _ _ _ hRP]; exact s2⟩⟩
    · have hx2 : vals a = some x := hx
      rw [ha] at hx2
      injection hx2 with hx2
      refine ⟨P, hx2.symm, q2, fun n => ?_, fun _ => ⟨v, hs, putCells_full hbox hz⟩⟩
      have n2 : vals.up k undef k = none := n
      rw [Vals.up_at] at n2; cases n2
  · rw [Vals.up_ne vals _ (hk1 b hb).1] at hp
    rw [Vals.up_ne vals _ (hk1 b' hb').1]
    exact h.dis b hb b' hb' hne P hp
  · rw [Vals.up_ne vals _ (hk1 b hb2).1] at hz
    have h1 := h.sa b hb2 hz
    by_cases e : b.2.1 = k
    · rcases (hk1 b hb2).2.2 with q | q
      · exact absurd e q
      · rw [q] at hz
        have hz2 : vals a = none := hz
        rw [ha] at hz2; cases hz2
    · rw [Vals.up_ne vals _ e]; exact h1
theorem RI.putA (h : RI bt W Q bl ty z vals w) {a k s P : Nat} {c : Array Value} (hb : (a, k, s) ∈ bl) (hn : vals k = none) (hk : (bl.all fun b => decide (b.1 ≠ k) && decide (b.2.2 ≠ k) && (decide (b.2.1 ≠ k) || decide (b = (a, k, s)))) = true)
    (hu : (bl.all fun b => decide (b.1 ≠ a) || decide (b = (a, k, s))) = true) (ht : bt (ty a) = true)
    (ha : vals a = some (.pointer (some ⟨P, 0, none⟩))) (hs : vals s = some (.agg c)) (hz : c.size = (z a).size) (hq : ∀ w1, Q k w1 undef) :
    RI bt W Q bl ty z (vals.up k undef) (putCells w P 0 c.toList) := h.put (v := .agg c) hb hn hk hu ht ha hs hz hq
/-- A box that is there, read back. -/
theorem RI.at_new (h : RI bt W Q bl ty z vals w) {a k s : Nat} (hb : (a, k, s) ∈ bl) (hn : vals k = none) {y : Value} (ha : vals a = some y) : ∃ P, y = .pointer (some ⟨P, 0, none⟩) ∧ W.heap.size ≤ P ∧ w.heap[P]? = some (.cells (z a) (ty a) (0, 0)) := by
  obtain ⟨P, q1, q2, q3, _⟩ := h.box _ hb y ha
  exact ⟨P, q1, q2, q3 hn⟩
theorem RI.at_full (h : RI bt W Q bl ty z vals w) {a k s : Nat} (hb : (a, k, s) ∈ bl) {y x v : Value} (hk : vals k = some x) (hs : vals s = some v) (ha : vals a = some y) : ∃ P, y = .pointer (some ⟨P, 0, none⟩) ∧ W.heap.size ≤ P ∧ w.heap[P]? = some (.cells (storeCells v) (ty a) (0, 0)) := by
  obtain ⟨P, q1, q2, _, q4⟩ := h.box _ hb y ha
  obtain ⟨u, r1, r2⟩ := q4 (by show vals k ≠ none; rw [hk]; simp)
  have r1 : vals s = some u := r1
  rw [hs] at r1
  injection r1 with r1
  subst r1
  exact ⟨P, q1, q2, r2⟩
end
end Go.Proofs.YtnjmgknicffcbaaGreatDoor
namespace Go.Proofs.YtnjmgknicffcbaaGreatDoor
open Go.RowKit Go.Joins
set_option linter.unusedSimpArgs false
set_option linter.unusedVariables false

def nilL : LG := fun _ => []
def Z3 : Nat → S3 := fun _ => ⟨none, 0, 0⟩
theorem XV.nil (w : World) : XV w (.slice none 0 0) [] := ⟨none, 0, rfl, Nat.le_refl _, ⟨Nat.zero_le _, fun _ => rfl⟩, fun j hj => absurd hj (by simp)⟩
theorem LV.nil (w : World) : LV w Z3 nilL := fun _ _ => XV.nil w
theorem LN.nil (w : World) (B : Nat) : LN w B Z3 nilL := fun _ _ => ⟨[], rfl, World.ownsRow_nil w _ _ _, fun r hr => by cases hr⟩
theorem LBox.zero {w : World} {b : Nat} (h : LBox w b Z3) : w.cell? ⟨b, 0, none⟩ = some (.slice none 0 0) ∧ w.cell? ⟨b, 1, none⟩ = some (.slice none 0 0) ∧ w.cell? ⟨b, 2, none⟩ = some (.slice none 0 0) ∧ w.cell? ⟨b, 3, none⟩ = some (.slice none 0 0) ∧ w.cell? ⟨b, 4, none⟩ = some (.slice none 0 0) ∧ w.cell? ⟨b, 5, none⟩ = some (.slice none 0 0) ∧ w.cell? ⟨b, 6, none⟩ = some (.slice none 0 0) ∧ w.cell? ⟨b, 7, none⟩ = some (.slice none 0 0) := h.all
theorem XFix.far {w : World} {b off : Nat} {t : TX} {v : Value} (h : XFix w b off t v) {p : Addr} (hp : p.block ≠ b) (u : Value) : XFix (w.setCell p u) b off t v := by
  obtain ⟨h1, h2, h3, h4, h5, h6, h7, h8, h9, h10, h11, h12⟩ := h
  have far : ∀ {q : Addr} {x : Value}, q.block = b → w.cell? q = some x → (w.setCell p u).cell? q = some x := fun {q x} hq hc => by
    rw [World.cell?_setCell_far w p q u (by rw [hq]; exact hp)]; exact hc
  exact ⟨far rfl h1, far rfl h2, far rfl h3, far rfl h4, far rfl h5, far rfl h6, far rfl h7, far rfl h8, far rfl h9, far rfl h10, far rfl h11, far rfl h12⟩
end Go.Proofs.YtnjmgknicffcbaaGreatDoor
