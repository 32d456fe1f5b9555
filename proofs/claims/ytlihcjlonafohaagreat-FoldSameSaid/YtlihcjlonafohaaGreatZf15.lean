/- Walks: the program's Copy of logs. Regions that read, call, make boxes and store into them, in any order: one invariant for all of them. Walks: slices.Clip of transactions; the program's Add. Walks: the document's Copy of logs. -/
import Derived.Test.YtlihcjlonafohaaGreatZf14
import Derived.Deep.RegionHeld3
import Derived.ArgAppend
import Derived.Test.YtlihcjlonafohaaGreatZf12
namespace Go.Proofs.YtlihcjlonafohaaGreat
open Go.RowKit Go.Joins
set_option linter.unusedSimpArgs false
set_option linter.unusedVariables false

/-- The blocks from B on that were there stay as they were. -/
structure Mid (B : Nat) (a b : World) : Prop where
  size : a.heap.size ≤ b.heap.size
  mid : ∀ x, B ≤ x → x < a.heap.size → b.heap[x]? = a.heap[x]?
theorem Mid.refl (B : Nat) (a : World) : Mid B a a := ⟨Nat.le_refl _, fun _ _ _ => rfl⟩
theorem Mid.trans {B : Nat} {a b c : World} (h : Mid B a b) (k : Mid B b c) : Mid B a c := ⟨Nat.le_trans h.size k.size, fun x hx hl => (k.mid x hx (Nat.lt_of_lt_of_le hl h.size)).trans (h.mid x hx hl)⟩
theorem Mid.of_gr {B : Nat} {a b : World} (g : Gr a b) : Mid B a b := ⟨g.size, fun x _ hl => g.block x hl⟩
theorem Mid.gr {B : Nat} {a b c : World} (h : Mid B a b) (g : Gr b c) : Mid B a c := h.trans (Mid.of_gr g)
theorem Mid.set {B : Nat} {a b : World} (h : Mid B a b) {p : Addr} (hp : p.block < B ∨ a.heap.size ≤ p.block) (v : Value) : Mid B a (b.setCell p v) := by
  refine ⟨by simpa [World.setCell] using h.size, fun x hx hl => ?_⟩
  rw [Go.Deep.blk_setCell_other _ _ _ _ (by omega)]
  exact h.mid x hx hl
theorem own_mid {a b : World} {B : Nat} {t : TypeId} {size n : Nat} {v : Value} {xs : List Value} (h : a.ownsRow B t size v n xs) (k : Mid B a b) : b.ownsRow B t size v n xs := by
  refine ⟨h.1, ?_⟩
  rcases h.2 with h2 | ⟨g', cap, cur, hh, hb, hg, hn, hm, hcs, ht⟩
  · exact .inl h2
  · exact .inr ⟨g', cap, cur, hh, hb, by rw [k.mid g' hb (Array.getElem?_eq_some_iff.1 hg).1]; exact hg, hn, hm, hcs, ht⟩
/-- The operations of the first d lie in memory from B on, the others' where they lay in w0. -/
def TOd (w0 w : World) (B d : Nat) (R : List TR) : Prop := ∀ j (hj : j < R.length), (j < d → TOO w B R[j].2.v R[j].1.ops) ∧ (d ≤ j → TOV w0 R[j].2.v R[j].1.ops)
def TOn (w : World) (B : Nat) (R : List TR) : Prop := ∀ r ∈ R, TOO w B r.2.v r.1.ops
theorem TOd.mid {w0 a b : World} {B d : Nat} {R : List TR} (h : TOd w0 a B d R) (k : Mid B a b) : TOd w0 b B d R := fun j hj => ⟨fun e => own_mid ((h j hj).1 e) k, (h j hj).2⟩
theorem TOd.start {w0 w : World} {B : Nat} {R : List TR} (h : TOs w0 R) : TOd w0 w B 0 R := fun j hj => ⟨fun e => absurd e (Nat.not_lt_zero _), fun _ => h _ (List.getElem_mem hj)⟩
theorem TOd.end {w0 w : World} {B d : Nat} {R : List TR} (h : TOd w0 w B d R) (e : R.length ≤ d) : TOn w B R := fun r hr => by
  obtain ⟨j, hj, rfl⟩ := List.mem_iff_getElem.1 hr
  exact (h j hj).1 (by omega)
theorem TOn.mid {a b : World} {B : Nat} {R : List TR} (h : TOn a B R) (k : Mid B a b) : TOn b B R := fun r hr => own_mid (h r hr) k
/-- A row of transactions that the call owns from B on. -/
def XN (w : World) (B : Nat) (v : Value) (L : List TX) : Prop := ∃ R, texts R = L ∧ XO w B v R ∧ TOn w B R
theorem XN.mid {a b : World} {B : Nat} {v : Value} {L : List TX} (h : XN a B v L) (k : Mid B a b) : XN b B v L := by
  obtain ⟨R, h1, h2, h3⟩ := h
  exact ⟨R, h1, own_mid h2 k, h3.mid k⟩
theorem XN.xv {w : World} {B : Nat} {v : Value} {L : List TX} (h : XN w B v L) : XV w v L := by
  obtain ⟨R, rfl, h2, h3⟩ := h
  exact h2.xv fun r hr => (h3 r hr).tov
theorem XN.le {w : World} {B B' : Nat} {v : Value} {L : List TX} (h : XN w B v L) (hb : B' ≤ B) : XN w B' v L := by
  obtain ⟨R, h1, h2, h3⟩ := h
  exact ⟨R, h1, h2.le hb, fun r hr => (h3 r hr).le hb⟩
/-- Logs whose rows the call owns from B on. -/
def LN (w : World) (B : Nat) (u : Nat → S3) (l : LG) : Prop := ∀ i, i < 8 → XN w B (.slice (u i).a (u i).n (u i).c) (l i)
theorem LN.lv {w : World} {B : Nat} {u : Nat → S3} {l : LG} (h : LN w B u l) : LV w u l := fun i hi => (h i hi).xv
theorem LN.mid {a b : World} {B : Nat} {u : Nat → S3} {l : LG} (h : LN a B u l) (k : Mid B a b) : LN b B u l := fun i hi => (h i hi).mid k
theorem texts_len (R : List TR) : (texts R).length = R.length := List.length_map _
theorem XFix.kp {w w' : World} {r : Option Nat} {b off : Nat} {t : TX} {v : Value} (h : XFix w b off t v) (k : Kp r w w') (hr : r ≠ some b) : XFix w' b off t v := by
  obtain ⟨h1, h2, h3, h4, h5, h6, h7, h8, h9, h10, h11, h12⟩ := h
  have hr' : ∀ (p : Addr), p.block = b → some p.block ≠ r := fun p hp e => hr (by rw [← e, hp])
  exact ⟨k.cell h1 (hr' _ rfl), k.cell h2 (hr' _ rfl), k.cell h3 (hr' _ rfl), k.cell h4 (hr' _ rfl), k.cell h5 (hr' _ rfl), k.cell h6 (hr' _ rfl), k.cell h7 (hr' _ rfl), k.cell h8 (hr' _ rfl), k.cell h9 (hr' _ rfl), k.cell h10 (hr' _ rfl), k.cell h11 (hr' _ rfl), k.cell h12 (hr' _ rfl)⟩
theorem Gr.trans_kp {a b c : World} {g : Nat} (h : Gr a b) (k : Kp (some g) b c) (hg : a.heap.size ≤ g) : Gr a c :=
  ⟨k.1.trans h.os, k.2.trans h.tape, k.3.trans h.output, Nat.le_trans h.size k.size, fun x hx => (k.5 x (Nat.lt_of_lt_of_le hx h.size) (fun e => by injection e with e; omega)).trans (h.block x hx)⟩
theorem Gr.putCells {a : World} {g : Nat} (hg : a.heap.size ≤ g) : ∀ (cs : List Value) (o : Nat) {b : World}, Gr a b → Gr a (putCells b g o cs)
  | [], _, _, h => h
  | _ :: r, o, _, h => Gr.putCells hg r (o + 1) (h.setCell hg _)
def updS (f : Nat → S3) (k : Nat) (s : S3) : Nat → S3 := fun i => if i = k then s else f i
theorem lcells_upd (f : Nat → S3) {k : Nat} (hk : k < 8) (s : S3) : (lcells f).setIfInBounds k (.slice s.a s.n s.c) = lcells (updS f k s) := by
  match k, hk with
  | 0, _ => rfl
  | 1, _ => rfl
  | 2, _ => rfl
  | 3, _ => rfl
  | 4, _ => rfl
  | 5, _ => rfl
  | 6, _ => rfl
  | 7, _ => rfl
theorem LBox.set {w : World} {b : Nat} {u : Nat → S3} (h : LBox w b u) {k : Nat} (hk : k < 8) (A : Option Addr) (n c : Nat) : LBox (w.setCell ⟨b, k, none⟩ (.slice A n c)) b (updS u k ⟨A, n, c⟩) := ⟨by rw [block_setCell h.box]; exact congrArg (fun x => some (Obj.cells x 24 (0, 0))) (lcells_upd u hk ⟨A, n, c⟩)⟩
structure FitC (l : LG) : Prop where
  len : ∀ i, i < 8 → (l i).length * 112 ≤ 140737488355328
  tx : ∀ i t, i < 8 → t ∈ l i → t.ops.length * 48 ≤ 140737488355328 ∧ ∀ o ∈ t.ops, o.key.size ≤ 281474976710656 ∧ o.elem.size ≤ 281474976710656
theorem FitL.c {l : LG} (h : FitL l) : FitC l := ⟨fun i hi => by have := h.len i hi; omega, fun i t hi ht => ⟨by have := (h.fit i t hi ht).len; omega, fun o ho => ⟨((h.fit i t hi ht).ops o ho).2.2.1, ((h.fit i t hi ht).ops o ho).2.2.2⟩⟩⟩

end Go.Proofs.YtlihcjlonafohaaGreat
namespace Go.Proofs.YtlihcjlonafohaaGreat
open Go.RowKit Go.Joins

/-- All blocks of which the type is not a box's type stay as they are. -/
def Keeps (bt : TypeId → Bool) (w w' : World) : Prop := ∀ (b : Nat) (cs : Array Value) (t : TypeId) (fr : Nat × Nat), bt t = false → w.heap[b]? = some (.cells cs t fr) → w'.heap[b]? = some (.cells cs t fr)
theorem Keeps.refl (bt : TypeId → Bool) (w : World) : Keeps bt w w := fun _ _ _ _ _ h => h
theorem Keeps.trans {bt : TypeId → Bool} {a b c : World} (h : Keeps bt a b) (k : Keeps bt b c) : Keeps bt a c := fun i cs t fr ht hb => k i cs t fr ht (h i cs t fr ht hb)
theorem Keeps.of_gr {bt : TypeId → Bool} {a b : World} (g : Gr a b) : Keeps bt a b := fun i cs t fr _ hb => by
  rw [g.block i (Array.getElem?_eq_some_iff.1 hb).1]
  exact hb
theorem own_keeps {bt : TypeId → Bool} {w w' : World} {B size n : Nat} {t : TypeId} {v : Value} {xs : List Value} (h : w.ownsRow B t size v n xs) (ht : bt t = false) (k : Keeps bt w w') : w'.ownsRow B t size v n xs := by
  refine ⟨h.1, ?_⟩
  rcases h.2 with h0 | ⟨g, cap, cur, hv, hb, hg, hr⟩
  · exact .inl h0
  · exact .inr ⟨g, cap, cur, hv, hb, k g cur t (0, 0) ht hg, hr⟩
/-- The cells that a stored value fills. -/
def storeCells : Value → Array Value
  | .agg c => c
  | v => #[v]
theorem putCells_far : ∀ (cs : List Value) (o : Nat) (w : World) (P b : Nat), b ≠ P → (putCells w P o cs).heap[b]? = w.heap[b]?
  | [], _, _, _, _, _ => rfl
  | x :: r, o, w, P, b, h => by
    show (putCells (w.setCell ⟨P, o, none⟩ x) P (o + 1) r).heap[b]? = _
    rw [putCells_far r (o + 1) _ P b h]
    exact Go.Deep.blk_setCell_other _ _ _ _ h
theorem putCells_at : ∀ (cs : List Value) (o : Nat) (w : World) (P : Nat) (z : List Value) (t : TypeId) (fr : Nat × Nat), w.heap[P]? = some (.cells z.toArray t fr) → (putCells w P o cs).heap[P]? = some (.cells (setFrom z o cs).toArray t fr)
  | [], _, _, _, _, _, _, h => h
  | x :: r, o, w, P, z, t, fr, h => by
    show (putCells (w.setCell ⟨P, o, none⟩ x) P (o + 1) r).heap[P]? = _
    refine putCells_at r (o + 1) _ P (z.set o x) t fr ?_
    rw [block_setCell h x]
    simp
theorem setFrom_all (xs cs : List Value) (h : cs.length = xs.length) : setFrom xs 0 cs = cs := by
  refine List.ext_getElem? fun j => ?_
  rw [setFrom_at cs xs 0 j (by omega)]
  by_cases hj : j < cs.length
  · rw [if_pos ⟨Nat.zero_le _, by omega⟩]; rfl
  · rw [if_neg (by omega), List.getElem?_eq_none (by omega), List.getElem?_eq_none (by omega)]
theorem putCells_full {w : World} {P : Nat} {z c : Array Value} {t : TypeId} {fr : Nat × Nat} (h : w.heap[P]? = some (.cells z t fr)) (hs : c.size = z.size) : (putCells w P 0 c.toList).heap[P]? = some (.cells c t fr) := by
  rw [putCells_at c.toList 0 w P z.toList t fr h, setFrom_all _ _ (by simpa using hs)]
theorem putCells_keeps {bt : TypeId → Bool} {w : World} {P : Nat} {z : Array Value} {t : TypeId} {fr : Nat × Nat} (h : w.heap[P]? = some (.cells z t fr)) (ht : bt t = true) (cs : List Value) (o : Nat) : Keeps bt w (putCells w P o cs) := fun b cs' t' fr' ht' hb => by
  by_cases e : b = P
  · subst e
    rw [h] at hb
    injection hb with hb
    injection hb with _ hb
    rw [hb, ht'] at ht
    cases ht
  · rw [putCells_far cs o w P b e]; exact hb
/-- What a region has left: of the values each its predicate, which keeps when boxes change; of the boxes (alloc, store, source) each its cells. -/
structure RI (bt : TypeId → Bool) (W : World) (Q : Nat → World → Value → Prop) (bl : List (Nat × Nat × Nat)) (ty : Nat → TypeId) (z : Nat → Array Value) (vals : Vals) (w : World) : Prop where
  gr : Gr W w
  st : ∀ k y w1 w2, Q k w1 y → Keeps bt w1 w2 → Q k w2 y
  ok : ∀ k y, vals k = some y → Q k w y
  box : ∀ b ∈ bl, ∀ y, vals b.1 = some y → ∃ P, y = .pointer (some ⟨P, 0, none⟩) ∧ W.heap.size ≤ P ∧ (vals b.2.1 = none → w.heap[P]? = some (.cells (z b.1) (ty b.1) (0, 0))) ∧ (vals b.2.1 ≠ none → ∃ v, vals b.2.2 = some v ∧ w.heap[P]? = some (.cells (storeCells v) (ty b.1) (0, 0)))
  dis : ∀ b ∈ bl, ∀ b' ∈ bl, b.1 ≠ b'.1 → ∀ P, vals b.1 = some (.pointer (some ⟨P, 0, none⟩)) → vals b'.1 ≠ some (.pointer (some ⟨P, 0, none⟩))
  sa : ∀ b ∈ bl, vals b.1 = none → vals b.2.1 = none
section
variable {bt : TypeId → Bool} {W : World} {Q : Nat → World → Value → Prop} {bl : List (Nat × Nat × Nat)} {ty : Nat → TypeId} {z : Nat → Array Value} {vals : Vals} {w : World}
theorem ri_start {W0 : World} (hst : ∀ k y w1 w2, Q k w1 y → Keeps bt w1 w2 → Q k w2 y) (g : Gr W W0) : RI bt W Q bl ty z (fun _ => none) W0.drew :=
  ⟨g.drew, hst, fun _ _ h => (by cases h), fun _ _ _ h => (by cases h), fun _ _ _ _ _ _ h => (by cases h), fun _ _ _ => rfl⟩
theorem RI.next (h : RI bt W Q bl ty z vals w) {w' : World} (g : Gr w w') : RI bt W Q bl ty z vals w' :=
  ⟨h.gr.trans g, h.st, fun k y hy => h.st k y _ _ (h.ok k y hy) (Keeps.of_gr g), fun b hb y hy => by
    obtain ⟨P, q1, q2, q3, q4⟩ := h.box b hb y hy
    exact ⟨P, q1, q2, fun n => gr_obj g (q3 n), fun n => by obtain ⟨v, r1, r2⟩ := q4 n; exact ⟨v, r1, gr_obj g r2⟩⟩, h.dis, h.sa⟩
/-- A value that is no box. -/
theorem RI.val (h : RI bt W Q bl ty z vals w) {k : Nat} {y : Value} (hn : vals k = none) (hk : (bl.all fun b => decide (b.1 ≠ k) && decide (b.2.1 ≠ k)) = true) (hq : Q k w y) : RI bt W Q bl ty z (vals.up k y) w := by
  have hk1 : ∀ b ∈ bl, b.1 ≠ k ∧ b.2.1 ≠ k := fun b hb => by
    have := List.all_eq_true.1 hk b hb
    rw [Bool.and_eq_true, decide_eq_true_eq, decide_eq_true_eq] at this
    exact this
  refine ⟨h.gr, h.st, fun j x hx => ?_, fun b hb x hx => ?_, fun b hb b' hb' hne P hp => ?_, fun b hb hz => ?_⟩
  · by_cases e : j = k
    · subst e
      rw [Vals.up_at] at hx
      injection hx with hx
      rw [← hx]; exact hq
    · rw [Vals.up_ne vals y e] at hx
      exact h.ok j x hx
  · rw [Vals.up_ne vals y (hk1 b hb).1] at hx
    obtain ⟨P, q1, q2, q3, q4⟩ := h.box b hb x hx
    rw [Vals.up_ne vals y (hk1 b hb).2]
    refine ⟨P, q1, q2, q3, fun n => ?_⟩
    obtain ⟨v, r1, r2⟩ := q4 n
    refine ⟨v, ?_, r2⟩
    rw [Vals.up_ne vals y (fun e => by rw [e, hn] at r1; cases r1)]
    exact r1
  · rw [Vals.up_ne vals y (hk1 b hb).1] at hp
    rw [Vals.up_ne vals y (hk1 b' hb').1]
    exact h.dis b hb b' hb' hne P hp
  · rw [Vals.up_ne vals y (hk1 b hb).1] at hz
    rw [Vals.up_ne vals y (hk1 b hb).2]
    exact h.sa b hb hz
/-- A new box. -/
theorem RI.new (h0 : RI bt W Q bl ty z vals w) {k : Nat} (hn : vals k = none) (hk : (bl.all fun b => decide (b.2.1 ≠ k) && decide (b.2.2 ≠ k)) = true) {c : Array Value} {t : TypeId} (hc : z k = c) (ht : ty k = t) (hq : ∀ w1 P, Q k w1 (.pointer (some ⟨P, 0, none⟩))) :
    RI bt W Q bl ty z (vals.up k (.pointer (some ⟨w.heap.size, 0, none⟩))) (w.alloc (.cells c t)) := by
  subst hc ht
  have h := h0.next ((Gr.refl w).alloc (.cells (z k) (ty k)))
  have hk1 : ∀ b ∈ bl, b.2.1 ≠ k ∧ b.2.2 ≠ k := fun b hb => by
    have := List.all_eq_true.1 hk b hb
    rw [Bool.and_eq_true, decide_eq_true_eq, decide_eq_true_eq] at this
    exact this
  have old : ∀ b ∈ bl, ∀ P, vals b.1 = some (.pointer (some ⟨P, 0, none⟩)) → P < w.heap.size := fun b hb P hp => by
    obtain ⟨P', q1, q2, q3, q4⟩ := h0.box b hb _ hp
    injection q1 with q1
    injection q1 with q1
    injection q1 with q1
    subst q1
    by_cases e : vals b.2.1 = none
    · exact (Array.getElem?_eq_some_iff.1 (q3 e)).1
    · obtain ⟨v, _, r⟩ := q4 e
      exact (Array.getElem?_eq_some_iff.1 r).1
  refine ⟨h.gr, h.st, fun j x hx => ?_, fun b hb x hx => ?_, fun b hb b' hb' hne P hp => ?_, fun b hb hz => ?_⟩
  · by_cases e : j = k
    · subst e
      rw [Vals.up_at] at hx
      injection hx with hx
      rw [← hx]; exact hq _ _
    · rw [Vals.up_ne vals _ e] at hx
      exact h.ok j x hx
  · rw [Vals.up_ne vals _ (hk1 b hb).1, Vals.up_ne vals _ (hk1 b hb).2]
    by_cases e : b.1 = k
    · rw [e, Vals.up_at] at hx
      injection hx with hx
      refine ⟨w.heap.size, hx.symm, h0.gr.size, fun _ => ?_, fun n => absurd (h.sa b hb (by rw [e]; exact hn)) n⟩
      rw [e]
      exact heap_alloc w (z k) (ty k)
    · rw [Vals.up_ne vals _ e] at hx
      exact h.box b hb x hx
  · by_cases e : b.1 = k
    · rw [e, Vals.up_at] at hp
      injection hp with hp
      injection hp with hp
      injection hp with hp
      injection hp with hp
      rw [Vals.up_ne vals _ (fun q => hne (by rw [e, q]))]
      intro q
      have := old b' hb' P q
      omega
    · rw [Vals.up_ne vals _ e] at hp
      by_cases e' : b'.1 = k
      · rw [e', Vals.up_at]
        intro q
        injection q with q
        injection q with q
        injection q with q
        injection q with q
        have := old b hb P hp
        omega
      · rw [Vals.up_ne vals _ e']
        exact h.dis b hb b' hb' hne P hp
  · by_cases e : b.1 = k
    · rw [e, Vals.up_at] at hz; cases hz
    · rw [Vals.up_ne vals _ e] at hz
      rw [Vals.up_ne vals _ (hk1 b hb).1]
      exact h.sa b hb hz
/-- A store into a box. -/
theorem RI.put (h : RI bt W Q bl ty z vals w) {a k s P : Nat} {v : Value} (hb : (a, k, s) ∈ bl) (hn : vals k = none) (hk : (bl.all fun b => decide (b.1 ≠ k) && decide (b.2.2 ≠ k) && (decide (b.2.1 ≠ k) || decide (b = (a, k, s)))) = true)
    (hu : (bl.all fun b => decide (b.1 ≠ a) || decide (b = (a, k, s))) = true) (ht : bt (ty a) = true)
    (ha : vals a = some (.pointer (some ⟨P, 0, none⟩))) (hs : vals s = some v) (hz : (storeCells v).size = (z a).size) (hq : ∀ w1, Q k w1 undef) :
    RI bt W Q bl ty z (vals.up k undef) (putCells w P 0 (storeCells v).toList) := by
  have hk1 : ∀ b ∈ bl, b.1 ≠ k ∧ b.2.2 ≠ k ∧ (b.2.1 ≠ k ∨ b = (a, k, s)) := fun b hb => by
    have := List.all_eq_true.1 hk b hb
    rw [Bool.and_eq_true, Bool.and_eq_true, Bool.or_eq_true, decide_eq_true_eq, decide_eq_true_eq, decide_eq_true_eq, decide_eq_true_eq] at this
    exact ⟨this.1.1, this.1.2, this.2⟩
  have hu1 : ∀ b ∈ bl, b.1 ≠ a ∨ b = (a, k, s) := fun b hb => by
    have := List.all_eq_true.1 hu b hb
    rw [Bool.or_eq_true, decide_eq_true_eq, decide_eq_true_eq] at this
    exact this
  obtain ⟨P', q1, q2, q3, q4⟩ := h.box _ hb _ ha
  injection q1 with q1
  injection q1 with q1
  injection q1 with q1
  subst q1
  have hbox := q3 hn
  have kp : Keeps bt w (putCells w P 0 (storeCells v).toList) := putCells_keeps hbox ht _ _
  refine ⟨Gr.putCells q2 _ _ h.gr, h.st, fun j x hx => ?_, fun b hb2 x hx => ?_, fun b hb b' hb' hne P hp => ?_, fun b hb2 hz => ?_⟩
  · by_cases e : j = k
    · subst e
      rw [Vals.up_at] at hx
      injection hx with hx
      rw [← hx]; exact hq _
    · rw [Vals.up_ne vals _ e] at hx
      exact h.st j x _ _ (h.ok j x hx) kp
  · rw [Vals.up_ne vals _ (hk1 b hb2).1] at hx
    rw [Vals.up_ne vals _ (hk1 b hb2).2.1]
    rcases hu1 b hb2 with hne | rfl
    · have hne2 : b.2.1 ≠ k := by
        rcases (hk1 b hb2).2.2 with q | q
        · exact q
        · rw [q] at hne; exact absurd rfl hne
      rw [Vals.up_ne vals _ hne2]
      obtain ⟨R, r1, r2, r3, r4⟩ := h.box b hb2 x hx
      have hRP : R ≠ P := fun e => by
        rw [e] at r1
        rw [r1] at hx
        exact h.dis b hb2 _ hb hne P hx ha
      exact ⟨R, r1, r2, fun n => by rw [putCells_far _ _ _ _ _ hRP]; exact r3 n, fun n => by obtain ⟨u, s1, s2⟩ := r4 n; exact ⟨u, s1, by rw [putCells_far _ _ _ _ _ hRP]; exact s2⟩⟩
    · have hx2 : vals a = some x := hx
      rw [ha] at hx2
      injection hx2 with hx2
      refine ⟨P, hx2.symm, q2, fun n => ?_, fun _ => ⟨v, hs, putCells_full hbox hz⟩⟩
      have n2 : vals.up k undef k = none := n
      rw [Vals.up_at] at n2; cases n2
  · rw [Vals.up_ne vals _ (hk1 b hb).1] at hp
    rw [Vals.up_ne vals _ (hk1 b' hb').1]
    exact h.dis b hb b' hb' hne P hp
  · rw [Vals.up_ne vals _ (hk1 b hb2).1] at hz
    have h1 := h.sa b hb2 hz
    by_cases e : b.2.1 = k
    · rcases (hk1 b hb2).2.2 with q | q
      · exact absurd e q
      · rw [q] at hz
        have hz2 : vals a = none := hz
        rw [ha] at hz2; cases hz2
    · rw [Vals.up_ne vals _ e]; exact h1
theorem RI.putA (h : RI bt W Q bl ty z vals w) {a k s P : Nat} {c : Array Value} (hb : (a, k, s) ∈ bl) (hn : vals k = none) (hk : (bl.all fun b => decide (b.1 ≠ k) && decide (b.2.2 ≠ k) && (decide (b.2.1 ≠ k) || decide (b = (a, k, s)))) = true)
    (hu : (bl.all fun b => decide (b.1 ≠ a) || decide (b = (a, k, s))) = true) (ht : bt (ty a) = true)
    (ha : vals a = some (.pointer (some ⟨P, 0, none⟩))) (hs : vals s = some (.agg c)) (hz : c.size = (z a).size) (hq : ∀ w1, Q k w1 undef) :
    RI bt W Q bl ty z (vals.up k undef) (putCells w P 0 c.toList) := h.put (v := .agg c) hb hn hk hu ht ha hs hz hq
/-- A box that is there, read back. -/
theorem RI.at_new (h : RI bt W Q bl ty z vals w) {a k s : Nat} (hb : (a, k, s) ∈ bl) (hn : vals k = none) {y : Value} (ha : vals a = some y) : ∃ P, y = .pointer (some ⟨P, 0, none⟩) ∧ W.heap.size ≤ P ∧ w.heap[P]? = some (.cells (z a) (ty a) (0, 0)) := by
  obtain ⟨P, q1, q2, q3, _⟩ := h.box _ hb y ha
  exact ⟨P, q1, q2, q3 hn⟩
theorem RI.at_full (h : RI bt W Q bl ty z vals w) {a k s : Nat} (hb : (a, k, s) ∈ bl) {y x v : Value} (hk : vals k = some x) (hs : vals s = some v) (ha : vals a = some y) : ∃ P, y = .pointer (some ⟨P, 0, none⟩) ∧ W.heap.size ≤ P ∧ w.heap[P]? = some (.cells (storeCells v) (ty a) (0, 0)) := by
  obtain ⟨P, q1, q2, _, q4⟩ := h.box _ hb y ha
  obtain ⟨u, r1, r2⟩ := q4 (by show vals k ≠ none; rw [hk]; simp)
  have r1 : vals s = some u := r1
  rw [hs] at r1
  injection r1 with r1
  subst r1
  exact ⟨P, q1, q2, r2⟩
end
end Go.Proofs.YtlihcjlonafohaaGreat
namespace Go.Proofs.YtlihcjlonafohaaGreat
open Go.RowKit Go.Joins
set_option linter.unusedSimpArgs false
set_option linter.unusedVariables false

def nilL : LG := fun _ => []
def Z3 : Nat → S3 := fun _ => ⟨none, 0, 0⟩
theorem XV.nil (w : World) : XV w (.slice none 0 0) [] := ⟨none, 0, rfl, Nat.le_refl _, ⟨Nat.zero_le _, fun _ => rfl⟩, fun j hj => absurd hj (by simp)⟩
theorem LV.nil (w : World) : LV w Z3 nilL := fun _ _ => XV.nil w
theorem LN.nil (w : World) (B : Nat) : LN w B Z3 nilL := fun _ _ => ⟨[], rfl, World.ownsRow_nil w _ _ _, fun r hr => by cases hr⟩
theorem LBox.zero {w : World} {b : Nat} (h : LBox w b Z3) : w.cell? ⟨b, 0, none⟩ = some (.slice none 0 0) ∧ w.cell? ⟨b, 1, none⟩ = some (.slice none 0 0) ∧ w.cell? ⟨b, 2, none⟩ = some (.slice none 0 0) ∧ w.cell? ⟨b, 3, none⟩ = some (.slice none 0 0) ∧ w.cell? ⟨b, 4, none⟩ = some (.slice none 0 0) ∧ w.cell? ⟨b, 5, none⟩ = some (.slice none 0 0) ∧ w.cell? ⟨b, 6, none⟩ = some (.slice none 0 0) ∧ w.cell? ⟨b, 7, none⟩ = some (.slice none 0 0) := h.all
theorem XFix.far {w : World} {b off : Nat} {t : TX} {v : Value} (h : XFix w b off t v) {p : Addr} (hp : p.block ≠ b) (u : Value) : XFix (w.setCell p u) b off t v := by
  obtain ⟨h1, h2, h3, h4, h5, h6, h7, h8, h9, h10, h11, h12⟩ := h
  have far : ∀ {q : Addr} {x : Value}, q.block = b → w.cell? q = some x → (w.setCell p u).cell? q = some x := fun {q x} hq hc => by
    rw [World.cell?_setCell_far w p q u (by rw [hq]; exact hp)]; exact hc
  exact ⟨far rfl h1, far rfl h2, far rfl h3, far rfl h4, far rfl h5, far rfl h6, far rfl h7, far rfl h8, far rfl h9, far rfl h10, far rfl h11, far rfl h12⟩
end Go.Proofs.YtlihcjlonafohaaGreat
namespace Go.Proofs.YtlihcjlonafohaaGreat
open Go.RowKit Go.Joins
set_option linter.unusedSimpArgs false
set_option linter.unusedVariables false

theorem trcells_at {W : World} {b off : Nat} {t : TR} (ht : XFix W b off t.1 t.2.v) {j : Nat} {u : Value} (hu : (trcells t)[j]? = some u) : W.cell? ⟨b, off + j, none⟩ = some u := by
  have hj : j < 12 := by have := (List.getElem?_eq_some_iff.1 hu).1; rw [trcells_len] at this; exact this
  obtain ⟨x0, x1, x2, x3, x4, x5, x6, x7, x8, x9, x10, x11⟩ := ht
  match j, hj with
  | 0, _ => injection hu with hu; rw [← hu]; exact x0
  | 1, _ => injection hu with hu; rw [← hu]; exact x1
  | 2, _ => injection hu with hu; rw [← hu]; exact x2
  | 3, _ => injection hu with hu; rw [← hu]; exact x3
  | 4, _ => injection hu with hu; rw [← hu]; exact x4
  | 5, _ => injection hu with hu; rw [← hu]; exact x5
  | 6, _ => injection hu with hu; rw [← hu]; exact x6
  | 7, _ => injection hu with hu; rw [← hu]; exact x7
  | 8, _ => injection hu with hu; rw [← hu]; exact x8
  | 9, _ => injection hu with hu; rw [← hu]; exact x9
  | 10, _ => injection hu with hu; rw [← hu]; exact x10
  | 11, _ => injection hu with hu; rw [← hu]; exact x11
theorem trs_snoc (R : List TR) (t : TR) : trs (R ++ [t]) = trs R ++ trcells t := by unfold trs; rw [List.flatMap_append]; simp
/-- What lies below an owned row stays where it grows. -/
theorem own_below {w w' : World} {B size n : Nat} {ty : TypeId} {v : Value} {xs : List Value} (ho : w.ownsRow B ty size v n xs) (k : w.grownBy w' v.ownBlock) : ∀ x, x < B → x < w.heap.size → w'.heap[x]? = w.heap[x]? :=
  fun x hx hl => (show Kp v.ownBlock w w' from k).5 x hl (fun e => by have := ho.lt x e.symm; omega)
theorem Gr.grown {w0 w w' : World} {B size n : Nat} {ty : TypeId} {v : Value} {xs : List Value} (h : Gr w0 w) (ho : w.ownsRow B ty size v n xs) (hB : w0.heap.size ≤ B) (k : w.grownBy w' v.ownBlock) : Gr w0 w' :=
  ⟨(show Kp _ w w' from k).1.trans h.os, (show Kp _ w w' from k).2.trans h.tape, (show Kp _ w w' from k).3.trans h.output, Nat.le_trans h.size (show Kp _ w w' from k).size, fun x hx => (own_below ho k x (by omega) (Nat.lt_of_lt_of_le hx h.size)).trans (h.block x hx)⟩
theorem TOO.grown {w w' : World} {B B' n c : Nat} {A : Option Addr} {xs : List Value} {v : Value} {ops : List TO} (hv : TOO w B' v ops) (ho : w.ownsRow B 45 12 (.slice A n c) n xs) (hB : B' ≤ B) (k : w.grownBy w' (Value.slice A n c).ownBlock) : TOO w' B' v ops := by
  cases A with
  | none => exact World.ownsRow.kept hv k (Classical.em _)
  | some p => exact World.ownsRow.kept hv k (.inr (own_types (own_le ho hB) hv (by decide) (b := p.block) rfl))

/-- The inner rounds: of log k the first d are copied. -/
structure RcI (w : World) (u : Nat → S3) (l : LG) (k : Nat) (ur : Nat → S3) (wo : World) (d : Nat) (A : Option Addr) (c : Nat) (R : List TR) (us : Nat → S3) (wr : World) : Prop where
  a : LBox wr w.heap.size u
  z : LBox wr (w.heap.size + 1) (fun _ => ⟨none, 0, 0⟩)
  b : LBox wr (w.heap.size + 1 + 1) us
  at' : us k = ⟨A, d, c⟩
  ne : ∀ j, j ≠ k → us j = ur j
  row : wr.ownsRow wo.heap.size 45 12 (.slice A d c) d (trs R)
  tx : texts R = (l k).take d
  ops : TOn wr (w.heap.size + 3) R
  mid : Mid (w.heap.size + 3) wo wr
  gr : Gr w wr
theorem RcI.next {w wo wr w' : World} {u ur us : Nat → S3} {l : LG} {k d c : Nat} {A : Option Addr} {R : List TR} (h : RcI w u l k ur wo d A c R us wr) (g : Gr wr w') : RcI w u l k ur wo d A c R us w' :=
  ⟨h.a.gr g, h.z.gr g, h.b.gr g, h.at', h.ne, own_gr h.row g, h.tx, h.ops.mid (Mid.of_gr g), h.mid.gr g, h.gr.trans g⟩
theorem LBox.keep {w w' : World} {b : Nat} {u : Nat → S3} (h : LBox w b u) (e : w'.heap[b]? = w.heap[b]?) : LBox w' b u := ⟨by rw [e]; exact h.box⟩
theorem LBox.lt {w : World} {b : Nat} {u : Nat → S3} (h : LBox w b u) : b < w.heap.size := (Array.getElem?_eq_some_iff.1 h.box).1
/-- One more: the row has grown, its new slice is stored. -/
theorem RcI.more {w wo w8 w9 : World} {u ur us : Nat → S3} {l : LG} {k d c c' : Nat} {A A' : Option Addr} {R : List TR} {t : TX} {s : S3} (h : RcI w u l k ur wo d A c R us w8) (hk : k < 8) (hB : w.heap.size + 3 ≤ wo.heap.size)
    (hd : d < (l k).length) (ht : (l k)[d] = t) (hs : TOO w8 (w.heap.size + 3) s.v t.ops) (kp : w8.grownBy w9 (Value.slice A d c).ownBlock)
    (hown : w9.ownsRow wo.heap.size 45 12 (.slice A' (d + 1) c') (d + 1) (trs (R ++ [(t, s)]))) :
    RcI w u l k ur wo (d + 1) A' c' (R ++ [(t, s)]) (updS us k ⟨A', d + 1, c'⟩) (w9.setCell ⟨w.heap.size + 1 + 1, k, none⟩ (.slice A' (d + 1) c')) := by
  have hb := own_below h.row kp
  have hsz : w8.heap.size ≤ w9.heap.size := Kp.size kp
  have h89 : wo.heap.size ≤ w8.heap.size := h.mid.size
  have e0 := hb w.heap.size (by omega) h.a.lt
  have e1 := hb (w.heap.size + 1) (by omega) h.z.lt
  have e2 := hb (w.heap.size + 1 + 1) (by omega) h.b.lt
  have m9 : Mid (w.heap.size + 3) wo w9 := ⟨Nat.le_trans h.mid.size hsz, fun x hx hl => (hb x hl (by omega)).trans (h.mid.mid x hx hl)⟩
  have g9 : Gr w w9 := h.gr.grown h.row (by omega) kp
  have ms : Mid (w.heap.size + 3) w9 (w9.setCell ⟨w.heap.size + 1 + 1, k, none⟩ (.slice A' (d + 1) c')) := (Mid.refl _ _).set (.inl (by show w.heap.size + 1 + 1 < _; omega)) _
  refine ⟨(h.a.keep e0).far (by simp only []; omega) _, (h.z.keep e1).far (by simp only []; omega) _, (h.b.keep e2).set hk _ _ _, if_pos rfl, fun j hj => ?_, ?_, ?_, ?_, m9.trans ms, ?_⟩
  · show (if j = k then _ else us j) = _
    rw [if_neg hj]; exact h.ne j hj
  · exact ownsRow_setCell_below hown (by show w.heap.size + 1 + 1 < _; omega) _
  · unfold texts
    rw [List.map_append, show R.map (·.1) = (l k).take d from h.tx, List.take_add_one, List.getElem?_eq_getElem hd, ht]
    rfl
  · intro r hr
    refine own_mid ?_ ms
    rcases List.mem_append.1 hr with hr | hr
    · exact TOO.grown (h.ops r hr) h.row hB kp
    · simp only [List.mem_singleton] at hr
      subst hr
      exact TOO.grown hs h.row hB kp
  · exact g9.setCell (by show w.heap.size ≤ w.heap.size + 1 + 1; omega) _

end Go.Proofs.YtlihcjlonafohaaGreat
