/- Walks: the program's Copy of a transaction. Walks: the program's Copy of logs. -/
import Derived.Test.YtnjmgknicffcbaaGreatDoorZb27
import Derived.Deep.RegionHeld3
namespace Go.Proofs.YtnjmgknicffcbaaGreatDoor
open Go.RowKit Go.Joins

/-- A value that lies there already, stored again. -/
theorem own_again {w : World} {B : Nat} {t : TypeId} {size g n c : Nat} {xs : List Value} (h : w.ownsRow B t size (.slice (some ⟨g, 0, none⟩) n c) n xs) {j : Nat} {u : Value} (hj : xs[j]? = some u) : (w.setCell ⟨g, j, none⟩ u).ownsRow B t size (.slice (some ⟨g, 0, none⟩) n c) n xs ∧ Kp (some g) w (w.setCell ⟨g, j, none⟩ u) := by
  obtain ⟨h1, h2⟩ := h.stored j u
  refine ⟨?_, h2⟩
  have : xs.set j u = xs := by
    refine List.ext_getElem? fun i => ?_
    by_cases e : j = i
    · subst e
      rw [List.getElem?_set_self (List.getElem?_eq_some_iff.1 hj).1, hj]
    · rw [List.getElem?_set_ne e]
  rw [this] at h1
  exact h1
/-- What Copy has in memory. -/
structure CpS (w : World) (t : TX) (A : Option Addr) (n c : Nat) (wr : World) : Prop where
  b : wr.heap[w.heap.size]? = some (.cells (tcs t (.slice A n c)) 47 (0, 0))
  r : wr.heap[w.heap.size + 1]? = some (.cells zeroX 47 (0, 0))
  row : wr.ownsRow (w.heap.size + 2) 52 4 (.slice A n c) n (tocells t.ops)
  gr : Gr w wr
theorem CpS.next {w : World} {t : TX} {A : Option Addr} {n c : Nat} {a b : World} (h : CpS w t A n c a) (g : Gr a b) : CpS w t A n c b := ⟨gr_obj g h.b, gr_obj g h.r, own_gr h.row g, h.gr.trans g⟩
theorem CpS.again {w : World} {t : TX} {g n c : Nat} {a : World} (h : CpS w t (some ⟨g, 0, none⟩) n c a) {j : Nat} {u : Value} (hj : (tocells t.ops)[j]? = some u) : CpS w t (some ⟨g, 0, none⟩) n c (a.setCell ⟨g, j, none⟩ u) := by
  obtain ⟨h1, h2⟩ := own_again h.row hj
  have hg : w.heap.size + 2 ≤ g := (own_len h.row).2.2.1
  exact ⟨kp_obj h2 h.b (fun e => by injection e with e; omega), kp_obj h2 h.r (fun e => by injection e with e; omega), h1, h.gr.setCell (by show _ ≤ g; omega) _⟩
end Go.Proofs.YtnjmgknicffcbaaGreatDoor
namespace Go.Proofs.YtnjmgknicffcbaaGreatDoor
open Go.RowKit Go.Joins
set_option linter.unusedSimpArgs false
set_option linter.unusedVariables false

/-- The blocks from B on that were there stay as they were. -/
structure Mid (B : Nat) (a b : World) : Prop where
  size : a.heap.size ≤ b.heap.size
  mid : ∀ x, B ≤ x → x < a.heap.size → b.heap[x]? = a.heap[x]?
theorem Mid.refl (B : Nat) (a : World) : Mid B a a := ⟨Nat.le_refl _, fun _ _ _ => rfl⟩
theorem Mid.trans {B : Nat} {a b c : World} (h : Mid B a b) (k : Mid B b c) : Mid B a c := ⟨Nat.le_trans h.size k.size, fun x hx hl => (k.mid x hx (Nat.lt_of_lt_of_le hl h.size)).trans (h.mid x hx hl)⟩
theorem Mid.of_gr {B : Nat} {a b : World} (g : Gr a b) : Mid B a b := ⟨g.size, fun x _ hl => g.block x hl⟩
theorem Mid.gr {B : Nat} {a b c : World} (h : Mid B a b) (g : Gr b c) : Mid B a c := h.trans (Mid.of_gr g)
theorem Mid.set {B : Nat} {a b : World} (h : Mid B a b) {p : Addr} (hp : p.block < B ∨ a.heap.size ≤ p.block) (v : Value) : Mid B a (b.setCell p v) := by
  refine ⟨by simpa [World.setCell] using h.size, fun x hx hl => ?_⟩
  rw [Go.Deep.blk_setCell_other _ _ _ _ (by omega)]
  exact h.mid x hx hl
theorem own_mid {a b : World} {B : Nat} {t : TypeId} {size n : Nat} {v : Value} {xs : List Value} (h : a.ownsRow B t size v n xs) (k : Mid B a b) : b.ownsRow B t size v n xs := by
  refine ⟨h.1, ?_⟩
  rcases h.2 with h2 | ⟨g', cap, cur, hh, hb, hg, hn, hm, hcs, ht⟩
  · exact .inl h2
  · exact .inr ⟨g', cap, cur, hh, hb, by rw [k.mid g' hb (Array.getElem?_eq_some_iff.1 hg).1]; exact hg, hn, hm, hcs, ht⟩
/-- The operations of the first d lie in memory from B on, the others' where they lay in w0. -/
def TOd (w0 w : World) (B d : Nat) (R : List TR) : Prop := ∀ j (hj : j < R.length), (j < d → TOO w B R[j].2.v R[j].1.ops) ∧ (d ≤ j → TOV w0 R[j].2.v R[j].1.ops)
def TOn (w : World) (B : Nat) (R : List TR) : Prop := ∀ r ∈ R, TOO w B r.2.v r.1.ops
theorem TOd.mid {w0 a b : World} {B d : Nat} {R : List TR} (h : TOd w0 a B d R) (k : Mid B a b) : TOd w0 b B d R := fun j hj => ⟨fun e => own_mid ((h j hj).1 e) k, (h j hj).2⟩
theorem TOd.start {w0 w : World} {B : Nat} {R : List TR} (h : TOs w0 R) : TOd w0 w B 0 R := fun j hj => ⟨fun e => absurd e (Nat.not_lt_zero _), fun _ => h _ (List.getElem_mem hj)⟩
theorem TOd.end {w0 w : World} {B d : Nat} {R : List TR} (h : TOd w0 w B d R) (e : R.length ≤ d) : TOn w B R := fun r hr => by
  obtain ⟨j, hj, rfl⟩ := List.mem_iff_getElem.1 hr
  exact (h j hj).1 (by omega)
theorem TOn.mid {a b : World} {B : Nat} {R : List TR} (h : TOn a B R) (k : Mid B a b) : TOn b B R := fun r hr => own_mid (h r hr) k
/-- A row of transactions that the call owns from B on. -/
def XN (w : World) (B : Nat) (v : Value) (L : List TX) : Prop := ∃ R, texts R = L ∧ XO w B v R ∧ TOn w B R
theorem XN.mid {a b : World} {B : Nat} {v : Value} {L : List TX} (h : XN a B v L) (k : Mid B a b) : XN b B v L := by
  obtain ⟨R, h1, h2, h3⟩ := h
  exact ⟨R, h1, own_mid h2 k, h3.mid k⟩
theorem XN.xv {w : World} {B : Nat} {v : Value} {L : List TX} (h : XN w B v L) : XV w v L := by
  obtain ⟨R, rfl, h2, h3⟩ := h
  exact h2.xv fun r hr => (h3 r hr).tov
theorem XN.le {w : World} {B B' : Nat} {v : Value} {L : List TX} (h : XN w B v L) (hb : B' ≤ B) : XN w B' v L := by
  obtain ⟨R, h1, h2, h3⟩ := h
  exact ⟨R, h1, h2.le hb, fun r hr => (h3 r hr).le hb⟩
/-- Logs whose rows the call owns from B on. -/
def LN (w : World) (B : Nat) (u : Nat → S3) (l : LG) : Prop := ∀ i, i < 8 → XN w B (.slice (u i).a (u i).n (u i).c) (l i)
theorem LN.lv {w : World} {B : Nat} {u : Nat → S3} {l : LG} (h : LN w B u l) : LV w u l := fun i hi => (h i hi).xv
theorem LN.mid {a b : World} {B : Nat} {u : Nat → S3} {l : LG} (h : LN a B u l) (k : Mid B a b) : LN b B u l := fun i hi => (h i hi).mid k
theorem XFix.kp {w w' : World} {r : Option Nat} {b off : Nat} {t : TX} {v : Value} (h : XFix w b off t v) (k : Kp r w w') (hr : r ≠ some b) : XFix w' b off t v := by
  obtain ⟨h1, h2, h3, h4, h5, h6, h7, h8, h9, h10, h11, h12⟩ := h
  have hr' : ∀ (p : Addr), p.block = b → some p.block ≠ r := fun p hp e => hr (by rw [← e, hp])
  exact ⟨k.cell h1 (hr' _ rfl), k.cell h2 (hr' _ rfl), k.cell h3 (hr' _ rfl), k.cell h4 (hr' _ rfl), k.cell h5 (hr' _ rfl), k.cell h6 (hr' _ rfl), k.cell h7 (hr' _ rfl), k.cell h8 (hr' _ rfl), k.cell h9 (hr' _ rfl), k.cell h10 (hr' _ rfl), k.cell h11 (hr' _ rfl), k.cell h12 (hr' _ rfl)⟩
theorem Gr.trans_kp {a b c : World} {g : Nat} (h : Gr a b) (k : Kp (some g) b c) (hg : a.heap.size ≤ g) : Gr a c :=
  ⟨k.1.trans h.os, k.2.trans h.tape, k.3.trans h.output, Nat.le_trans h.size k.size, fun x hx => (k.5 x (Nat.lt_of_lt_of_le hx h.size) (fun e => by injection e with e; omega)).trans (h.block x hx)⟩
theorem Gr.putCells {a : World} {g : Nat} (hg : a.heap.size ≤ g) : ∀ (cs : List Value) (o : Nat) {b : World}, Gr a b → Gr a (putCells b g o cs)
  | [], _, _, h => h
  | _ :: r, o, _, h => Gr.putCells hg r (o + 1) (h.setCell hg _)
def updS (f : Nat → S3) (k : Nat) (s : S3) : Nat → S3 := fun i => if i = k then s else f i
theorem lcells_upd (f : Nat → S3) {k : Nat} (hk : k < 8) (s : S3) : (lcells f).setIfInBounds k (.slice s.a s.n s.c) = lcells (updS f k s) := by
  match k, hk with
  | 0, _ => rfl
  | 1, _ => rfl
  | 2, _ => rfl
  | 3, _ => rfl
  | 4, _ => rfl
  | 5, _ => rfl
  | 6, _ => rfl
  | 7, _ => rfl
theorem LBox.set {w : World} {b : Nat} {u : Nat → S3} (h : LBox w b u) {k : Nat} (hk : k < 8) (A : Option Addr) (n c : Nat) : LBox (w.setCell ⟨b, k, none⟩ (.slice A n c)) b (updS u k ⟨A, n, c⟩) := ⟨by rw [block_setCell h.box]; exact congrArg (fun x => some (Obj.cells x 25 (0, 0))) (lcells_upd u hk ⟨A, n, c⟩)⟩
structure FitC (l : LG) : Prop where
  len : ∀ i, i < 8 → (l i).length * 112 ≤ 140737488355328
  tx : ∀ i t, i < 8 → t ∈ l i → t.ops.length * 48 ≤ 140737488355328 ∧ ∀ o ∈ t.ops, o.key.size ≤ 281474976710656 ∧ o.elem.size ≤ 281474976710656
theorem FitL.c {l : LG} (h : FitL l) : FitC l := ⟨fun i hi => by have := h.len i hi; omega, fun i t hi ht => ⟨by have := (h.fit i t hi ht).len; omega, fun o ho => ⟨((h.fit i t hi ht).ops o ho).2.2.1, ((h.fit i t hi ht).ops o ho).2.2.2⟩⟩⟩

end Go.Proofs.YtnjmgknicffcbaaGreatDoor
