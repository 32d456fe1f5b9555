/- Texts VdG, RL, VdH, VsN, VdL, joined. -/
import Derived.Test.YtlihcjlonafohaaG37
import Derived.Test.YtlihcjlonafohaaG16
import Derived.Test.YtlihcjlonafohaaG10
import Derived.Test.YtlihcjlonafohaaG22
import Derived.Test.YtlihcjlonafohaaG18
import Derived.Test.YtlihcjlonafohaaG23
/- What a store into a box of a value leaves; what the rounds of the document's Value leave. -/
namespace Go.Proofs.Ytlihcjlonafohaa
open Go.RowKit Go.Joins
set_option linter.unusedSimpArgs false
set_option linter.unusedVariables false

/-- A box of a value lies here. -/
def QBox (w : World) (Q : Nat) (n : Int) (A : Option Addr) (m c : Nat) (on : Bool) : Prop := w.heap[Q]? = some (.cells #[.int .i64 n, .slice A m c, .bool on] 49 (0, 0))
theorem QBox.gr {w w' : World} {Q : Nat} {n : Int} {A : Option Addr} {m c : Nat} {on : Bool} (h : QBox w Q n A m c on) (g : Gr w w') : QBox w' Q n A m c on := gr_obj g h
theorem QBox.cells {w : World} {Q : Nat} {n : Int} {A : Option Addr} {m c : Nat} {on : Bool} (h : QBox w Q n A m c on) : w.cell? ⟨Q, 0, none⟩ = some (.int .i64 n) ∧ w.cell? ⟨Q, 1, none⟩ = some (.slice A m c) ∧ w.cell? ⟨Q, 2, none⟩ = some (.bool on) := by
  have h : w.heap[Q]? = _ := h
  refine ⟨?_, ?_, ?_⟩ <;> (rw [cell_of_block h]; rfl)
theorem QBox.fz {w : World} {Q : Nat} {n : Int} {A : Option Addr} {m c : Nat} {on : Bool} (h : QBox w Q n A m c on) : w.frozen? ⟨Q, 0, none⟩ = false ∧ w.frozen? ⟨Q, 1, none⟩ = false ∧ w.frozen? ⟨Q, 2, none⟩ = false :=
  ⟨unfrozen_of_block h 0, unfrozen_of_block h 1, unfrozen_of_block h 2⟩
theorem QBox.lt {w : World} {Q : Nat} {n : Int} {A : Option Addr} {m c : Nat} {on : Bool} (h : QBox w Q n A m c on) : Q < w.heap.size := (Array.getElem?_eq_some_iff.1 h).1
theorem QBox.set0 {w : World} {Q : Nat} {n : Int} {A : Option Addr} {m c : Nat} {on : Bool} (h : QBox w Q n A m c on) (n' : Int) : QBox (w.setCell ⟨Q, 0, none⟩ (.int .i64 n')) Q n' A m c on := set_obj (i := 0) h _
theorem QBox.set1 {w : World} {Q : Nat} {n : Int} {A : Option Addr} {m c : Nat} {on : Bool} (h : QBox w Q n A m c on) (A' : Option Addr) (m' c' : Nat) : QBox (w.setCell ⟨Q, 1, none⟩ (.slice A' m' c')) Q n A' m' c' on := set_obj (i := 1) h _
theorem QBox.set2 {w : World} {Q : Nat} {n : Int} {A : Option Addr} {m c : Nat} {on : Bool} (h : QBox w Q n A m c on) (on' : Bool) : QBox (w.setCell ⟨Q, 2, none⟩ (.bool on')) Q n A m c on' := set_obj (i := 2) h _
/-- No string lies in a box of a value. -/
theorem QBox.ne {w : World} {Q : Nat} {n : Int} {A : Option Addr} {m c : Nat} {on : Bool} (h : QBox w Q n A m c on) {b i : Nat} {s : ByteArray} (hc : w.cell? ⟨b, i, none⟩ = some (.string s)) : b ≠ Q := by
  intro e
  subst e
  have h : w.heap[b]? = _ := h
  rw [cell_of_block h] at hc
  match i with
  | 0 => cases hc
  | 1 => cases hc
  | 2 => cases hc
  | k + 3 => cases hc
theorem SV.kq {w w' : World} {Q : Nat} {n : Int} {A : Option Addr} {m c : Nat} {on : Bool} (h : QBox w Q n A m c on) (k : Kp (some Q) w w') {v : Value} {E : List ByteArray} (hv : SV w v E) : SV w' v E := by
  obtain ⟨A', c', hv', h1, h2, h3⟩ := hv
  refine ⟨A', c', hv', h1, h2, fun j hj => ?_⟩
  obtain ⟨b, off, ha, hc⟩ := h3 j hj
  exact ⟨b, off, ha, k.cellNe hc (h.ne hc)⟩
theorem TOV.kq {w w' : World} {Q : Nat} {n : Int} {A : Option Addr} {m c : Nat} {on : Bool} (h : QBox w Q n A m c on) (k : Kp (some Q) w w') {v : Value} {L : List TO} (hv : TOV w v L) : TOV w' v L := by
  obtain ⟨A', c', hv', h1, h2, h3⟩ := hv
  refine ⟨A', c', hv', h1, h2, fun j hj => ?_⟩
  obtain ⟨b, off, ha, c0, c1, c2, c3⟩ := h3 j hj
  have hb := h.ne c1
  exact ⟨b, off, ha, k.cellNe c0 hb, k.cellNe c1 hb, k.cellNe c2 hb, k.cellNe c3 hb⟩
theorem PLT.kq {w w' : World} {Q : Nat} {n : Int} {A : Option Addr} {m c : Nat} {on : Bool} (h : QBox w Q n A m c on) (k : Kp (some Q) w w') {R : List PR} (hv : PLT w R) : PLT w' R := fun r hr => TOV.kq h k (hv r hr)
/-- The elements that are put in, one behind the other. -/
def foldT (p : TX × Nat → Bool) (L : List (TX × Nat)) : Nat → List ByteArray
  | 0 => []
  | j + 1 => match L[j]? with | some x => if p x = true then intoT (elP x) (foldT p L j) else foldT p L j | none => foldT p L j
theorem foldT_yes {p : TX × Nat → Bool} {L : List (TX × Nat)} {j : Nat} {x : TX × Nat} (h : L[j]? = some x) (hp : p x = true) : foldT p L (j + 1) = intoT (elP x) (foldT p L j) := by
  show (match L[j]? with | some x => _ | none => _) = _
  rw [h]
  simp only [hp, if_true]
theorem foldT_no {p : TX × Nat → Bool} {L : List (TX × Nat)} {j : Nat} {x : TX × Nat} (h : L[j]? = some x) (hp : p x = false) : foldT p L (j + 1) = foldT p L j := by
  show (match L[j]? with | some x => _ | none => _) = _
  rw [h]
  simp [hp]
theorem foldT_len (p : TX × Nat → Bool) (L : List (TX × Nat)) : ∀ j, (foldT p L j).length ≤ j
  | 0 => Nat.le_refl _
  | j + 1 => by
    have ih := foldT_len p L j
    unfold foldT
    split
    · split
      · next x _ _ =>
        have := intoT_len (elP x) (foldT p L j)
        omega
      · omega
    · omega
end Go.Proofs.Ytlihcjlonafohaa
/- Regions whose last operation is a store that waits for all others: one invariant, each operation walked once. -/
namespace Go.Proofs.Ytlihcjlonafohaa
open Go.RowKit

/-- N: the last operation; Q: what each other one has left; F: what the store leaves; ed: which operation waits for which. -/
structure RL (W0 : World) (N : Nat) (Q : Nat → World → Value → Prop) (F : World → Prop) (ed : List (Nat × Nat)) (vals : Vals) (w : World) : Prop where
  st : ∀ k y w1 w2, Q k w1 y → Gr w1 w2 → Q k w2 y
  pre : vals N = none → Gr W0 w ∧ ∀ k y, vals k = some y → Q k w y
  fin : vals N ≠ none → F w
  ch : ∀ e ∈ ed, vals e.1 = none → vals e.2 = none
section
variable {W0 : World} {N : Nat} {Q : Nat → World → Value → Prop} {F : World → Prop} {ed : List (Nat × Nat)} {vals : Vals} {w : World}
theorem rl_start {W1 : World} (hst : ∀ k y w1 w2, Q k w1 y → Gr w1 w2 → Q k w2 y) (g : Gr W0 W1) : RL W0 N Q F ed (fun _ => none) W1.drew :=
  ⟨hst, fun _ => ⟨g.drew, fun _ _ h => (by cases h)⟩, fun h => absurd rfl h, fun _ _ _ => rfl⟩
theorem RL.edge (h : RL W0 N Q F ed vals w) {i j : Nat} (he : (i, j) ∈ ed) (hi : vals i = none) : vals j = none := h.ch (i, j) he hi
theorem RL.gr (h : RL W0 N Q F ed vals w) (hN : vals N = none) : Gr W0 w := (h.pre hN).1
theorem RL.ok (h : RL W0 N Q F ed vals w) (hN : vals N = none) {k : Nat} {y : Value} (hy : vals k = some y) : Q k w y := (h.pre hN).2 k y hy
theorem RL.val (h : RL W0 N Q F ed vals w) {k : Nat} {y : Value} {w' : World} (hN : vals N = none) (hk : k ≠ N) (hpre : (ed.all fun e => !(e.2 == k) || (vals e.1).isSome) = true) (g : Gr w w') (hq : Q k w' y) : RL W0 N Q F ed (vals.up k y) w' := by
  have eN : vals.up k y N = vals N := Vals.up_ne vals y (Ne.symm hk)
  refine ⟨h.st, fun _ => ⟨(h.gr hN).trans g, fun j x hx => ?_⟩, fun hc => absurd (by rw [eN]; exact hN) hc, fun e he h1 => ?_⟩
  · by_cases ej : j = k
    · subst ej
      rw [Vals.up_at] at hx
      rw [← Option.some.inj hx]
      exact hq
    · rw [Vals.up_ne vals y ej] at hx
      exact h.st _ _ _ _ (h.ok hN hx) g
  · have e1 : e.1 ≠ k := fun c => by rw [c, Vals.up_at] at h1; cases h1
    rw [Vals.up_ne vals y e1] at h1
    have e2 : e.2 ≠ k := fun c => by
      have := List.all_eq_true.1 hpre e he
      rw [c] at this
      simp [h1] at this
    rw [Vals.up_ne vals y e2]
    exact h.ch e he h1
theorem RL.last (h : RL W0 N Q F ed vals w) {y : Value} {w' : World} (hpre : (ed.all fun e => !(e.2 == N) || (vals e.1).isSome) = true) (hF : F w') : RL W0 N Q F ed (vals.up N y) w' := by
  refine ⟨h.st, fun hc => (by rw [Vals.up_at] at hc; cases hc), fun _ => hF, fun e he h1 => ?_⟩
  have e1 : e.1 ≠ N := fun c => by rw [c, Vals.up_at] at h1; cases h1
  rw [Vals.up_ne vals y e1] at h1
  have e2 : e.2 ≠ N := fun c => by
    have := List.all_eq_true.1 hpre e he
    rw [c] at this
    simp [h1] at this
  rw [Vals.up_ne vals y e2]
  exact h.ch e he h1
end
structure SpecG where
  P : World → Value → Prop
  st : ∀ y w1 w2, P w1 y → Gr w1 w2 → P w2 y
def SpecG.fix (v : Value) : SpecG := ⟨fun _ y => y = v, fun _ _ _ h _ => h⟩
def SpecG.any : SpecG := ⟨fun _ _ => True, fun _ _ _ _ _ => trivial⟩
def SpecG.strs (m : Nat) (E : List ByteArray) : SpecG := ⟨fun w y => ∃ A c, y = .slice A m c ∧ SV w (.slice A m c) E, fun _ _ _ ⟨A, c, h1, h2⟩ g => ⟨A, c, h1, h2.gr g⟩⟩
end Go.Proofs.Ytlihcjlonafohaa
/- What the document's Value keeps while it walks; what it answers over the document's order. -/
namespace Go.Proofs.Ytlihcjlonafohaa
open Go.RowKit Go.Joins
set_option linter.unusedSimpArgs false
set_option linter.unusedVariables false

section
variable {w0 w w' : World} {Q : Nat} {s4 s5 : Value} {L4 L5 : List (TX × Nat)} {E : List ByteArray} {on : Bool}
end
theorem sv_form {w : World} {v : Value} {E : List ByteArray} (h : SV w v E) : ∃ A c, v = .slice A E.length c := by
  obtain ⟨A, c, hv, _⟩ := h
  exact ⟨A, c, hv⟩
/-- What the document answers over its order of the transactions. -/
def rvR (kind start : Int) (O : List TX) (key : ByteArray) : VR :=
  if kind = 1 ∨ kind = 2 then ⟨wrap64 (start + wrap64 (sumAll (plL key 1 O) - sumAll (plL key 2 O))), [], false⟩
  else if kind = 3 ∨ kind = 8 then ⟨0, foldT (fun x => !ansB x (plL key 5 O)) (plL key 4 O) (plL key 4 O).length, false⟩
  else if kind = 4 then ⟨0, foldT (fun x => firB (elP x) (plL key 4 O) (plL key 5 O)) (plL key 4 O) (plL key 4 O).length, false⟩
  else if kind = 5 then ⟨0, (match (plL key 6 O)[(plL key 6 O).length - 1]? with | some x => [elP x] | none => []), false⟩
  else if kind = 6 then ⟨0, foldT (fun x => !covB x (plL key 6 O)) (plL key 6 O) (plL key 6 O).length, false⟩
  else ⟨0, [], (!decide (start = 0) && decide ((plL key 8 O).length = 0)) || (plL key 7 O).any (fun x => !ansB x (plL key 8 O))⟩
def RetR (r : VR) (k : Nat) (w : World) (e : Ending) (w' : World) : Prop := ∃ ve, e = .returned (.tuple #[.agg #[.int .i64 r.n, ve, .bool r.on], .int .i64 (k : Int)]) ∧ SV w' ve r.e ∧ Gr w w'
theorem qbox_new (w : World) : ∃ W, W = w.alloc (.cells #[.int .i64 0, .slice none 0 0, .bool false] 49) ∧ Gr w W ∧ QBox W w.heap.size 0 none 0 0 false := by
  refine ⟨_, rfl, (Gr.refl w).alloc _, ?_⟩
  show _ = _
  exact heap_alloc _ _ _
theorem ok_len {l : LG} {v : Nat → Nat} (hl : OkL l) : (ordR l v).length ≤ 65536 := by
  rw [ordR_len]
  have h : ∀ i, i < 8 → mt v (sizeV l) i ≤ 1024 := fun i hi => Nat.le_trans (Nat.min_le_right _ _) (hl.len i hi)
  unfold sumV
  simp only [sumTo]
  have h0 := h 0 (by decide); have h1 := h 1 (by decide); have h2 := h 2 (by decide); have h3 := h 3 (by decide)
  have h4 := h 4 (by decide); have h5 := h 5 (by decide); have h6 := h 6 (by decide); have h7 := h 7 (by decide)
  omega
theorem ok_ops {l : LG} {v : Nat → Nat} (hl : OkL l) : ∀ t ∈ ordR l v, t.ops.length ≤ 8 := fun t ht => by
  obtain ⟨i, k, hi, -, hk⟩ := ordR_mem.1 ht
  exact (hl.tx i k t hi hk).1.2.2.1
end Go.Proofs.Ytlihcjlonafohaa
/- Walks: the document's Copy of logs; its rows lie in blocks of their own. -/
namespace Go.Proofs.Ytlihcjlonafohaa
open Go.RowKit Go.Joins
set_option linter.unusedSimpArgs false
set_option linter.unusedVariables false

/-- No two of the rows lie in one block. -/
def DisU (u : Nat → S3) : Prop := ∀ x y, x < 8 → y < 8 → x ≠ y → ∀ b, (u x).v.ownBlock = some b → (u y).v.ownBlock ≠ some b
/-- What the rounds of the document's Copy leave: the first i logs are copied, the others are empty. -/
structure RdR (w : World) (u : Nat → S3) (l : LG) (i : Nat) (ur : Nat → S3) (wr : World) : Prop where
  a : LBox wr w.heap.size u
  z : LBox wr (w.heap.size + 1) (fun _ => ⟨none, 0, 0⟩)
  b : LBox wr (w.heap.size + 1 + 1) ur
  xn : ∀ j, j < i → XN wr (w.heap.size + 3) (.slice (ur j).a (ur j).n (ur j).c) (l j)
  mt : ∀ j, i ≤ j → ur j = ⟨none, 0, 0⟩
  gr : Gr w wr
  dj : ∀ x y, x < i → y < i → x ≠ y → ∀ b, (ur x).v.ownBlock = some b → (ur y).v.ownBlock ≠ some b
/-- The inner rounds: of log k the first d are copied. -/
structure RdI (w : World) (u : Nat → S3) (l : LG) (k : Nat) (ur : Nat → S3) (wo : World) (d : Nat) (A : Option Addr) (c : Nat) (R : List TR) (us : Nat → S3) (wr : World) : Prop where
  a : LBox wr w.heap.size u
  z : LBox wr (w.heap.size + 1) (fun _ => ⟨none, 0, 0⟩)
  b : LBox wr (w.heap.size + 1 + 1) us
  at' : us k = ⟨A, d, c⟩
  ne : ∀ j, j ≠ k → us j = ur j
  row : wr.ownsRow wo.heap.size 44 12 (.slice A d c) d (trs R)
  tx : texts R = (l k).take d
  ops : TOn wr (w.heap.size + 3) R
  mid : Mid (w.heap.size + 3) wo wr
  gr : Gr w wr
theorem rd_dis {w wo wr : World} {u ur us : Nat → S3} {l : LG} {k d c : Nat} {A : Option Addr} {R : List TR} (h : RdI w u l k ur wo d A c R us wr) (hc : RdR w u l k ur wo) : ∀ x y, x < k + 1 → y < k + 1 → x ≠ y → ∀ b, (us x).v.ownBlock = some b → (us y).v.ownBlock ≠ some b := by
  have old : ∀ x, x < k → ∀ b, (us x).v.ownBlock = some b → b < wo.heap.size := fun x hx b hb => by
    rw [h.ne x (by omega)] at hb
    obtain ⟨R, -, h2, -⟩ := hc.xn x hx
    exact (World.ownsRow.lt (h := h2) b hb).2
  have new : ∀ b, (us k).v.ownBlock = some b → wo.heap.size ≤ b := fun b hb => by
    rw [h.at'] at hb
    exact (World.ownsRow.lt (h := h.row) b hb).1
  intro x y hx hy hne b hb hb2
  by_cases ex : x = k
  · subst ex
    have h1 := new b hb
    have h2 := old y (by omega) b hb2
    omega
  · by_cases ey : y = k
    · subst ey
      have h1 := new b hb2
      have h2 := old x (by omega) b hb
      omega
    · rw [h.ne x ex] at hb
      rw [h.ne y ey] at hb2
      exact hc.dj x y (by omega) (by omega) hne b hb hb2
theorem RdI.next {w wo wr w' : World} {u ur us : Nat → S3} {l : LG} {k d c : Nat} {A : Option Addr} {R : List TR} (h : RdI w u l k ur wo d A c R us wr) (g : Gr wr w') : RdI w u l k ur wo d A c R us w' :=
  ⟨h.a.gr g, h.z.gr g, h.b.gr g, h.at', h.ne, own_gr h.row g, h.tx, h.ops.mid (Mid.of_gr g), h.mid.gr g, h.gr.trans g⟩
/-- One more: the row has grown, its new slice is stored. -/
theorem RdI.more {w wo w8 w9 : World} {u ur us : Nat → S3} {l : LG} {k d c c' : Nat} {A A' : Option Addr} {R : List TR} {t : TX} {s : S3} (h : RdI w u l k ur wo d A c R us w8) (hk : k < 8) (hB : w.heap.size + 3 ≤ wo.heap.size)
    (hd : d < (l k).length) (ht : (l k)[d] = t) (hs : TOO w8 (w.heap.size + 3) s.v t.ops) (kp : w8.grownBy w9 (Value.slice A d c).ownBlock)
    (hown : w9.ownsRow wo.heap.size 44 12 (.slice A' (d + 1) c') (d + 1) (trs (R ++ [(t, s)]))) :
    RdI w u l k ur wo (d + 1) A' c' (R ++ [(t, s)]) (updS us k ⟨A', d + 1, c'⟩) (w9.setCell ⟨w.heap.size + 1 + 1, k, none⟩ (.slice A' (d + 1) c')) := by
  have hb := own_below h.row kp
  have hsz : w8.heap.size ≤ w9.heap.size := Kp.size kp
  have h89 : wo.heap.size ≤ w8.heap.size := h.mid.size
  have e0 := hb w.heap.size (by omega) h.a.lt
  have e1 := hb (w.heap.size + 1) (by omega) h.z.lt
  have e2 := hb (w.heap.size + 1 + 1) (by omega) h.b.lt
  have m9 : Mid (w.heap.size + 3) wo w9 := ⟨Nat.le_trans h.mid.size hsz, fun x hx hl => (hb x hl (by omega)).trans (h.mid.mid x hx hl)⟩
  have g9 : Gr w w9 := h.gr.grown h.row (by omega) kp
  have ms : Mid (w.heap.size + 3) w9 (w9.setCell ⟨w.heap.size + 1 + 1, k, none⟩ (.slice A' (d + 1) c')) := (Mid.refl _ _).set (.inl (by show w.heap.size + 1 + 1 < _; omega)) _
  refine ⟨(h.a.keep e0).far (by simp only []; omega) _, (h.z.keep e1).far (by simp only []; omega) _, (h.b.keep e2).set hk _ _ _, if_pos rfl, fun j hj => ?_, ?_, ?_, ?_, m9.trans ms, ?_⟩
  · show (if j = k then _ else us j) = _
    rw [if_neg hj]; exact h.ne j hj
  · exact ownsRow_setCell_below hown (by show w.heap.size + 1 + 1 < _; omega) _
  · unfold texts
    rw [List.map_append, show R.map (·.1) = (l k).take d from h.tx, List.take_add_one, List.getElem?_eq_getElem hd, ht]
    rfl
  · intro r hr
    refine own_mid ?_ ms
    rcases List.mem_append.1 hr with hr | hr
    · exact TOO.grown (h.ops r hr) h.row hB kp
    · simp only [List.mem_singleton] at hr
      subst hr
      exact TOO.grown hs h.row hB kp
  · exact g9.setCell (by show w.heap.size ≤ w.heap.size + 1 + 1; omega) _

end Go.Proofs.Ytlihcjlonafohaa
/- What the document's rows of places answer is what the program's deeds make: elements and flags. -/
namespace Go.Proofs.Ytlihcjlonafohaa
open Go.RowKit Go.Joins
set_option linter.unusedSimpArgs false
set_option linter.unusedVariables false

theorem toD_op (x : TX × Nat) : (toD x).op = opAt x.1 x.2 := rfl
/-- The deeds of a kind, as places. -/
def plZ (key : ByteArray) (l : LG) (v : Nat → Nat) (k : Int) : List (TX × Nat) := (dAll key l v 8).filter fun x => decide ((opAt x.1 x.2).kind = k)
theorem kindF_Z (key : ByteArray) (l : LG) (v : Nat → Nat) (k : Int) : kindF k ((dAll key l v 8).map toD) = (plZ key l v k).map toD := by
  unfold kindF plZ
  rw [List.filter_map]
  rfl
theorem plZ_mem {key : ByteArray} {l : LG} {v : Nat → Nat} {k : Int} {x : TX × Nat} : x ∈ plZ key l v k ↔ x ∈ plL key k (ordR l v) := by
  unfold plZ
  rw [List.mem_filter, dAll_mem, plL_mem, ordR_mem]
  unfold InCut isPl
  constructor
  · rintro ⟨⟨⟨i, c, hi, hc, h1⟩, o, ho, he⟩, hk⟩
    refine ⟨⟨i, c, hi, hc, h1⟩, o, ho, ?_⟩
    rw [opAt_some ho] at hk
    rw [he, hk]; rfl
  · rintro ⟨⟨i, c, hi, hc, h1⟩, o, ho, he⟩
    rw [Bool.and_eq_true] at he
    refine ⟨⟨⟨i, c, hi, hc, h1⟩, o, ho, he.1⟩, ?_⟩
    rw [opAt_some ho]
    exact he.2
/-- What a place of the cut is. -/
theorem plL_fact {key : ByteArray} {k : Int} {l : LG} {v : Nat → Nat} {x : TX × Nat} (hl : OkL l) (h : x ∈ plL key k (ordR l v)) :
    (∃ i c, i < 8 ∧ (l i)[c]? = some x.1 ∧ x.1.origin = (i : Int) ∧ x.1.seq = c + 1 ∧ x.1.deps i = c) ∧ x.2 < x.1.ops.length ∧ (opAt x.1 x.2).kind = k ∧ (opAt x.1 x.2).key = key := by
  obtain ⟨h1, o, ho, he⟩ := plL_mem.1 h
  obtain ⟨i, c, hi, -, hc⟩ := ordR_mem.1 h1
  obtain ⟨hok, h2, h3, -⟩ := hl.tx i c x.1 hi hc
  unfold isPl at he
  rw [Bool.and_eq_true] at he
  refine ⟨⟨i, c, hi, hc, h2, h3, ?_⟩, (List.getElem?_eq_some_iff.1 ho).1, ?_, ?_⟩
  · have := hok.1.2.2.2.2
    rw [h2, h3] at this
    simpa using this
  · rw [opAt_some ho]; exact of_decide_eq_true he.2
  · rw [opAt_some ho]; exact eqS_iff.1 he.1
theorem same_tx {key : ByteArray} {k k' : Int} {l : LG} {v : Nat → Nat} {x y : TX × Nat} (hl : OkL l) (hx : x ∈ plL key k (ordR l v)) (hy : y ∈ plL key k' (ordR l v)) (h1 : x.1.origin = y.1.origin) (h2 : x.1.seq = y.1.seq) : x.1 = y.1 := by
  obtain ⟨⟨i, c, hi, hc, ho, hs, -⟩, -⟩ := plL_fact hl hx
  obtain ⟨⟨i', c', hi', hc', ho', hs', -⟩, -⟩ := plL_fact hl hy
  have e1 : i = i' := by omega
  have e2 : c = c' := by omega
  subst e1 e2
  rw [hc] at hc'
  exact Option.some.inj hc'
/-- What the first j deeds saw. -/
theorem seenF_has {a : ByteArray} {o : Int} {n : Nat} (L : List DD) : ∀ j, j ≤ L.length → (hasB (seenF L j a) o n = true ↔ ∃ d ∈ L.take j, aboutT d.op = a ∧ hasB d.t.deps o n = true)
  | 0, _ => by
    simp only [List.take_zero, List.not_mem_nil, false_and, exists_false, iff_false]
    unfold hasB seenF
    simp
    omega
  | j + 1, hj => by
    have ih := seenF_has (a := a) (o := o) (n := n) L j (by omega)
    have hd : L[j]? = some L[j] := List.getElem?_eq_getElem (by omega)
    rw [seenF_at hd, List.take_add_one, hd]
    simp only []
    by_cases e : a = aboutT L[j].op
    · rw [if_pos e, ← e]
      have hj2 : hasB (jn (seenF L j a) L[j].t.deps) o n = true ↔ hasB (seenF L j a) o n = true ∨ hasB L[j].t.deps o n = true := by
        unfold hasB jn
        simp only [Bool.and_eq_true, decide_eq_true_eq]
        omega
      rw [hj2, ih]
      constructor
      · rintro (⟨d, h1, h2, h3⟩ | h)
        · exact ⟨d, List.mem_append_left _ h1, h2, h3⟩
        · exact ⟨L[j], List.mem_append_right _ (by simp), e.symm, h⟩
      · rintro ⟨d, h1, h2, h3⟩
        rcases List.mem_append.1 h1 with h1 | h1
        · exact .inl ⟨d, h1, h2, h3⟩
        · have : d = L[j] := by simpa using h1
          rw [this] at h3
          exact .inr h3
    · rw [if_neg e, ih]
      constructor
      · rintro ⟨d, h1, h2, h3⟩
        exact ⟨d, List.mem_append_left _ h1, h2, h3⟩
      · rintro ⟨d, h1, h2, h3⟩
        rcases List.mem_append.1 h1 with h1 | h1
        · exact ⟨d, h1, h2, h3⟩
        · have : d = L[j] := by simpa using h1
          rw [this] at h2
          exact absurd h2.symm e
/-- The program's question and the document's. -/
theorem uns_seen {key : ByteArray} {l : LG} {v : Nat → Nat} (hl : OkL l) {kd sk : Int} {x : TX × Nat} (hx : x ∈ plL key kd (ordR l v)) :
    unsD (seenF (kindF sk ((dAll key l v 8).map toD)) (kindF sk ((dAll key l v 8).map toD)).length) sk (toD x) = true ↔
      ∃ y ∈ plL key sk (ordR l v), aboutT (opAt y.1 y.2) = aboutT (opAt x.1 x.2) ∧ seenP x y = true := by
  obtain ⟨⟨i, c, hi, hc, ho, hs, hdep⟩, hxi, hxk, hxkey⟩ := plL_fact hl hx
  unfold unsD
  rw [Bool.or_eq_true, seenF_has _ _ (Nat.le_refl _), List.take_length, kindF_Z]
  have hdd : x.1.deps x.1.origin.toNat = c := by rw [ho]; simpa using hdep
  have hh : decide (x.1.seq ≤ x.1.deps x.1.origin.toNat) = false := decide_eq_false (by rw [hdd, hs]; omega)
  have self : hasB x.1.deps x.1.origin x.1.seq = false := by
    unfold hasB
    rw [hh, Bool.and_false]
  constructor
  · rintro (⟨d, h1, h2, h3⟩ | h)
    · obtain ⟨y, hy, rfl⟩ := List.mem_map.1 h1
      rw [plZ_mem] at hy
      refine ⟨y, hy, h2, ?_⟩
      unfold seenP
      by_cases hs2 : x.1.origin = y.1.origin ∧ x.1.seq = y.1.seq
      · have e := same_tx hl hx hy hs2.1 hs2.2
        have h3 : hasB y.1.deps x.1.origin x.1.seq = true := h3
        rw [← e, self] at h3
        cases h3
      · rw [if_neg hs2]
        exact h3
    · unfold withinD at h
      rw [List.any_eq_true] at h
      obtain ⟨p, hp, hse⟩ := h
      obtain ⟨m, hm⟩ := List.mem_iff_getElem?.1 hp
      have hm : x.1.ops[x.2 + 1 + m]? = some p := by rw [← hm, List.getElem?_drop]; rfl
      unfold seesB at hse
      simp only [Bool.and_eq_true, decide_eq_true_eq, eqS_iff] at hse
      refine ⟨(x.1, x.2 + 1 + m), plL_mem.2 ⟨(plL_mem.1 hx).1, p, hm, ?_⟩, ?_, ?_⟩
      · unfold isPl
        rw [hse.2.1]
        show (eqS (opAt x.1 x.2).key key && _) = true
        rw [hxkey, eqS_self, hse.1]
        simp
      · show aboutT (opAt x.1 (x.2 + 1 + m)) = _
        rw [opAt_some hm]
        exact hse.2.2
      · unfold seenP
        rw [if_pos ⟨rfl, rfl⟩]
        exact decide_eq_true (by show x.2 < x.2 + 1 + m; omega)
  · rintro ⟨y, hy, ha, hse⟩
    unfold seenP at hse
    by_cases hs2 : x.1.origin = y.1.origin ∧ x.1.seq = y.1.seq
    · rw [if_pos hs2] at hse
      have hlt := of_decide_eq_true hse
      have e := same_tx hl hx hy hs2.1 hs2.2
      obtain ⟨-, hyi, hyk, hykey⟩ := plL_fact hl hy
      refine .inr ?_
      unfold withinD
      rw [List.any_eq_true]
      have hyo : x.1.ops[y.2]? = some (opAt y.1 y.2) := by
        rw [e, List.getElem?_eq_getElem hyi, opAt_some (List.getElem?_eq_getElem hyi)]
      refine ⟨opAt y.1 y.2, List.mem_iff_getElem?.2 ⟨y.2 - (x.2 + 1), ?_⟩, ?_⟩
      · show (x.1.ops.drop (x.2 + 1))[y.2 - (x.2 + 1)]? = _
        rw [List.getElem?_drop, show x.2 + 1 + (y.2 - (x.2 + 1)) = y.2 by omega]
        exact hyo
      · unfold seesB
        rw [toD_op]
        simp only [Bool.and_eq_true, decide_eq_true_eq, eqS_iff]
        exact ⟨hyk, by rw [hykey, hxkey], ha⟩
    · rw [if_neg hs2] at hse
      exact .inl ⟨toD y, List.mem_map.2 ⟨y, plZ_mem.2 hy, rfl⟩, ha, hse⟩
theorem about_el {o : TO} (h : ¬ o.kind = 6) : aboutT o = o.elem := if_neg h
theorem uns_ans {key : ByteArray} {l : LG} {v : Nat → Nat} (hl : OkL l) {kd sk : Int} (h1 : ¬ kd = 6) (h2 : ¬ sk = 6) {x : TX × Nat} (hx : x ∈ plL key kd (ordR l v)) :
    unsD (seenF (kindF sk ((dAll key l v 8).map toD)) (kindF sk ((dAll key l v 8).map toD)).length) sk (toD x) = ansB x (plL key sk (ordR l v)) := by
  rw [Bool.eq_iff_iff, uns_seen hl hx]
  unfold ansB
  rw [List.any_eq_true]
  have hxk := (plL_fact hl hx).2.2.1
  constructor
  · rintro ⟨y, hy, ha, hs⟩
    have hyk := (plL_fact hl hy).2.2.1
    rw [about_el (o := opAt x.1 x.2) (by rw [hxk]; exact h1), about_el (o := opAt y.1 y.2) (by rw [hyk]; exact h2)] at ha
    exact ⟨y, hy, by rw [hs, Bool.and_true]; exact eqS_iff.2 ha⟩
  · rintro ⟨y, hy, hb⟩
    rw [Bool.and_eq_true] at hb
    have hyk := (plL_fact hl hy).2.2.1
    refine ⟨y, hy, ?_, hb.2⟩
    rw [about_el (o := opAt x.1 x.2) (by rw [hxk]; exact h1), about_el (o := opAt y.1 y.2) (by rw [hyk]; exact h2)]
    exact eqS_iff.1 hb.1
theorem uns_cov {key : ByteArray} {l : LG} {v : Nat → Nat} (hl : OkL l) {x : TX × Nat} (hx : x ∈ plL key 6 (ordR l v)) :
    unsD (seenF (kindF 6 ((dAll key l v 8).map toD)) (kindF 6 ((dAll key l v 8).map toD)).length) 6 (toD x) = covB x (plL key 6 (ordR l v)) := by
  rw [Bool.eq_iff_iff, uns_seen hl hx]
  unfold covB
  rw [List.any_eq_true]
  have hxk := (plL_fact hl hx).2.2.1
  constructor
  · rintro ⟨y, hy, -, hs⟩
    exact ⟨y, hy, hs⟩
  · rintro ⟨y, hy, hs⟩
    have hyk := (plL_fact hl hy).2.2.1
    refine ⟨y, hy, ?_, hs⟩
    unfold aboutT
    rw [if_pos hxk, if_pos hyk]
/-- The elements put in, at the end. -/
theorem foldT_all (P : TX × Nat → Bool) (L : List (TX × Nat)) : foldT P L L.length = riseT ((L.filter P).map elP) := by
  have h : ∀ j, j ≤ L.length → foldT P L j = riseT (((L.take j).filter P).map elP) := by
    intro j
    induction j with
    | zero => intro _; simp [foldT, riseT]
    | succ j ih =>
      intro hj
      have hx : L[j]? = some L[j] := List.getElem?_eq_getElem hj
      rw [List.take_add_one, hx, List.filter_append, List.map_append]
      cases hp : P L[j] with
      | true =>
        rw [foldT_yes hx hp, ih (by omega), intoT_ins, ← riseT_snoc]
        simp [hp]
      | false =>
        rw [foldT_no hx hp, ih (by omega)]
        simp [hp]
  rw [h _ (Nat.le_refl _), List.take_length]
theorem unsL_Z {key : ByteArray} {l : LG} {v : Nat → Nat} {kd sk : Int} {P : TX × Nat → Bool} (h : ∀ x ∈ plL key kd (ordR l v), unsD (seenF (kindF sk ((dAll key l v 8).map toD)) (kindF sk ((dAll key l v 8).map toD)).length) sk (toD x) = P x) {s : ByteArray} :
    s ∈ elemsD (unsL kd sk ((dAll key l v 8).map toD)) ↔ ∃ x ∈ plL key kd (ordR l v), P x = false ∧ elP x = s := by
  unfold elemsD unsL
  rw [List.mem_map]
  constructor
  · rintro ⟨d, hd, he⟩
    rw [List.mem_filter, kindF_Z] at hd
    obtain ⟨x, hx, rfl⟩ := List.mem_map.1 hd.1
    rw [plZ_mem] at hx
    refine ⟨x, hx, ?_, he⟩
    have := hd.2
    rw [h x hx] at this
    simpa using this
  · rintro ⟨x, hx, hp, he⟩
    refine ⟨toD x, List.mem_filter.2 ⟨?_, ?_⟩, he⟩
    · rw [kindF_Z]
      exact List.mem_map.2 ⟨x, plZ_mem.2 hx, rfl⟩
    · rw [h x hx, hp]; rfl
theorem rise_same {key : ByteArray} {l : LG} {v : Nat → Nat} {kd sk : Int} {P : TX × Nat → Bool} (h : ∀ x ∈ plL key kd (ordR l v), unsD (seenF (kindF sk ((dAll key l v 8).map toD)) (kindF sk ((dAll key l v 8).map toD)).length) sk (toD x) = P x) :
    riseT (elemsD (unsL kd sk ((dAll key l v 8).map toD))) = foldT (fun x => !P x) (plL key kd (ordR l v)) (plL key kd (ordR l v)).length := by
  rw [foldT_all]
  refine riseT_congr fun s => ?_
  rw [unsL_Z h, List.mem_map]
  constructor
  · rintro ⟨x, hx, hp, he⟩
    exact ⟨x, List.mem_filter.2 ⟨hx, by rw [hp]; rfl⟩, he⟩
  · rintro ⟨x, hx, he⟩
    rw [List.mem_filter] at hx
    exact ⟨x, hx.1, by simpa using hx.2, he⟩
theorem firm_same {key : ByteArray} {l : LG} {v : Nat → Nat} (hl : OkL l) :
    firmL ((dAll key l v 8).map toD) = foldT (fun x => firB (elP x) (plL key 4 (ordR l v)) (plL key 5 (ordR l v))) (plL key 4 (ordR l v)) (plL key 4 (ordR l v)).length := by
  rw [foldT_all]
  unfold firmL
  refine risingS_ext ((riseT_rising _).filter _) (riseT_rising _) fun s => ?_
  have hu : s ∈ riseT (elemsD (unsL 5 4 ((dAll key l v 8).map toD))) ↔ ∃ x ∈ plL key 5 (ordR l v), ansB x (plL key 4 (ordR l v)) = false ∧ elP x = s := by
    rw [mem_riseT]
    exact unsL_Z (P := fun x => ansB x (plL key 4 (ordR l v))) fun x hx => uns_ans hl (by decide) (by decide) hx
  have hk : s ∈ riseT (elemsD (kindF 4 ((dAll key l v 8).map toD))) ↔ ∃ x ∈ plL key 4 (ordR l v), elP x = s := by
    rw [mem_riseT, kindF_Z]
    unfold elemsD
    rw [List.map_map, List.mem_map]
    constructor
    · rintro ⟨x, hx, he⟩; exact ⟨x, plZ_mem.1 hx, he⟩
    · rintro ⟨x, hx, he⟩; exact ⟨x, plZ_mem.2 hx, he⟩
  have hf : firB s (plL key 4 (ordR l v)) (plL key 5 (ordR l v)) = true ↔ ¬ ∃ x ∈ plL key 5 (ordR l v), ansB x (plL key 4 (ordR l v)) = false ∧ elP x = s := by
    unfold firB
    rw [List.all_eq_true]
    constructor
    · rintro h ⟨x, hx, ha, he⟩
      have := h x hx
      rw [ha, he, eqS_self] at this
      cases this
    · intro h x hx
      cases ha : ansB x (plL key 4 (ordR l v)) with
      | true => simp
      | false =>
        have hne : ¬ elP x = s := fun e => h ⟨x, hx, ha, e⟩
        rw [eqS_ne hne]
        rfl
  rw [List.mem_filter, hk, mem_riseT, List.mem_map]
  have hm : (!memS (riseT (elemsD (unsL 5 4 ((dAll key l v 8).map toD)))) s) = true ↔ firB s (plL key 4 (ordR l v)) (plL key 5 (ordR l v)) = true := by
    rw [hf, ← hu, ← memS_iff]
    simp
  rw [hm]
  constructor
  · rintro ⟨⟨x, hx, he⟩, hb⟩
    exact ⟨x, List.mem_filter.2 ⟨hx, by rw [he]; exact hb⟩, he⟩
  · rintro ⟨x, hx, he⟩
    rw [List.mem_filter] at hx
    exact ⟨⟨x, hx.1, he⟩, by rw [← he]; exact hx.2⟩
theorem on_same {key : ByteArray} {l : LG} {v : Nat → Nat} (hl : OkL l) (start : Int) :
    onB start ((dAll key l v 8).map toD) = ((!decide (start = 0) && decide ((plL key 8 (ordR l v)).length = 0)) || (plL key 7 (ordR l v)).any (fun x => !ansB x (plL key 8 (ordR l v)))) := by
  have h8 : decide ((kindF 8 ((dAll key l v 8).map toD)).length = 0) = decide ((plL key 8 (ordR l v)).length = 0) := by
    have : (kindF 8 ((dAll key l v 8).map toD)).length = 0 ↔ (plL key 8 (ordR l v)).length = 0 := by
      rw [kindF_Z, List.length_map]
      constructor
      · intro h
        have h := List.length_eq_zero_iff.1 h
        refine List.length_eq_zero_iff.2 (List.eq_nil_iff_forall_not_mem.2 fun x hx => ?_)
        rw [← plZ_mem, h] at hx
        cases hx
      · intro h
        have h := List.length_eq_zero_iff.1 h
        refine List.length_eq_zero_iff.2 (List.eq_nil_iff_forall_not_mem.2 fun x hx => ?_)
        rw [plZ_mem, h] at hx
        cases hx
    simp only [this]
  have h7 : decide (0 < (unsL 7 8 ((dAll key l v 8).map toD)).length) = (plL key 7 (ordR l v)).any (fun x => !ansB x (plL key 8 (ordR l v))) := by
    rw [Bool.eq_iff_iff, decide_eq_true_eq, List.any_eq_true, List.length_pos_iff_exists_mem]
    constructor
    · rintro ⟨d, hd⟩
      unfold unsL at hd
      rw [List.mem_filter] at hd
      have h1 := hd.1
      rw [kindF_Z] at h1
      obtain ⟨x, hx, rfl⟩ := List.mem_map.1 h1
      rw [plZ_mem] at hx
      refine ⟨x, hx, ?_⟩
      rw [← uns_ans hl (by decide) (by decide) hx]
      exact hd.2
    · rintro ⟨x, hx, ha⟩
      refine ⟨toD x, ?_⟩
      unfold unsL
      rw [List.mem_filter]
      refine ⟨?_, ?_⟩
      · rw [kindF_Z]; exact List.mem_map.2 ⟨x, plZ_mem.2 hx, rfl⟩
      · rw [uns_ans hl (by decide) (by decide) hx]; exact ha
  unfold onB
  rw [h8, h7, Bool.or_comm]
  congr 2
  by_cases h : start = 0 <;> simp [h]
end Go.Proofs.Ytlihcjlonafohaa
