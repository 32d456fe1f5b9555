/- Plain mathematics of values: which operations there are in a cut, in the order of members and in the document's order; what elements a value has. Places (an operation of a transaction) as the document lays them; walks: a place's operation; seen. Walks: the document's places. Walks: the document's answered, covered, firm. Walks: the document's sum. What a store into a box of a value leaves; what the rounds of the document's Value leave. Regions whose last operation is a store that waits for all others: one invariant, each operation walked once. -/
import Derived.Test.YtnjmgknicffcbaaGreatDoorZr28
import Derived.Test.YtnjmgknicffcbaaGreatDoorZr13
import Derived.Test.YtnjmgknicffcbaaGreatDoorZr11
import Derived.Test.YtnjmgknicffcbaaGreatDoorZr08
import Derived.Test.YtnjmgknicffcbaaGreatDoorZr14
import Derived.Test.YtnjmgknicffcbaaGreatDoorZr16
namespace Go.Proofs.YtnjmgknicffcbaaGreatDoor

/-- A transaction of the cut. -/
def InCut (l : LG) (v : Nat → Nat) (t : TX) : Prop := ∃ i k, i < 8 ∧ k < v i ∧ (l i)[k]? = some t
theorem dTx_mem {key : ByteArray} {t : TX} : ∀ {j : Nat} {x : TX × Nat}, x ∈ dTx key t j ↔ x.1 = t ∧ x.2 < j ∧ ∃ o, t.ops[x.2]? = some o ∧ eqS o.key key = true
  | 0, x => by
    constructor
    · intro h; cases h
    · intro h; exact absurd h.2.1 (Nat.not_lt_zero _)
  | j + 1, x => by
    unfold dTx
    rw [List.mem_append, dTx_mem]
    constructor
    · rintro (⟨h1, h2, h3⟩ | h)
      · exact ⟨h1, by omega, h3⟩
      · split at h
        · next o ho =>
          split at h
          · next hk =>
            obtain rfl := List.mem_singleton.1 h
            exact ⟨rfl, Nat.lt_succ_self _, o, ho, hk⟩
          · cases h
        · cases h
    · rintro ⟨h1, h2, o, h3, h4⟩
      rcases Nat.lt_or_ge x.2 j with c | c
      · exact .inl ⟨h1, c, o, h3, h4⟩
      · have e : x.2 = j := by omega
        refine .inr ?_
        rw [← e, h3]
        simp only [h4, if_true]
        exact List.mem_singleton.2 (by rw [← h1])
theorem dLog_mem {key : ByteArray} {l : LG} {i : Nat} : ∀ {d : Nat} {x : TX × Nat}, x ∈ dLog key l i d ↔ (∃ k, k < d ∧ (l i)[k]? = some x.1) ∧ ∃ o, x.1.ops[x.2]? = some o ∧ eqS o.key key = true
  | 0, x => by
    constructor
    · intro h; cases h
    · rintro ⟨⟨k, hk, _⟩, _⟩; exact absurd hk (Nat.not_lt_zero _)
  | d + 1, x => by
    unfold dLog
    rw [List.mem_append, dLog_mem]
    constructor
    · rintro (⟨⟨k, hk, h1⟩, h2⟩ | h)
      · exact ⟨⟨k, by omega, h1⟩, h2⟩
      · split at h
        · next t ht =>
          obtain ⟨h1, h2, h3⟩ := dTx_mem.1 h
          exact ⟨⟨d, Nat.lt_succ_self _, by rw [h1]; exact ht⟩, by rw [h1]; exact h3⟩
        · cases h
    · rintro ⟨⟨k, hk, h1⟩, o, h2, h3⟩
      rcases Nat.lt_or_ge k d with c | c
      · exact .inl ⟨⟨k, c, h1⟩, o, h2, h3⟩
      · have e : k = d := by omega
        refine .inr ?_
        rw [← e, h1]
        exact dTx_mem.2 ⟨rfl, (List.getElem?_eq_some_iff.1 h2).1, o, h2, h3⟩
theorem dAll_mem {key : ByteArray} {l : LG} {v : Nat → Nat} : ∀ {n : Nat} {x : TX × Nat}, x ∈ dAll key l v n ↔ (∃ i k, i < n ∧ k < v i ∧ (l i)[k]? = some x.1) ∧ ∃ o, x.1.ops[x.2]? = some o ∧ eqS o.key key = true
  | 0, x => by
    constructor
    · intro h; cases h
    · rintro ⟨⟨i, k, hi, _⟩, _⟩; exact absurd hi (Nat.not_lt_zero _)
  | n + 1, x => by
    unfold dAll
    rw [List.mem_append, dAll_mem, dLog_mem]
    constructor
    · rintro (⟨⟨i, k, hi, hk, h1⟩, h2⟩ | ⟨⟨k, hk, h1⟩, h2⟩)
      · exact ⟨⟨i, k, by omega, hk, h1⟩, h2⟩
      · exact ⟨⟨n, k, Nat.lt_succ_self _, hk, h1⟩, h2⟩
    · rintro ⟨⟨i, k, hi, hk, h1⟩, h2⟩
      rcases Nat.lt_or_ge i n with c | c
      · exact .inl ⟨⟨i, k, c, hk, h1⟩, h2⟩
      · have e : i = n := by omega
        subst e
        exact .inr ⟨⟨k, hk, h1⟩, h2⟩
theorem insT_mem {t x : TX} {L : List TX} : x ∈ insT t L ↔ x = t ∨ x ∈ L := by
  unfold insT
  have h : x ∈ L ↔ x ∈ L.take (plc t L L.length) ∨ x ∈ L.drop (plc t L L.length) := by
    rw [← List.mem_append, List.take_append_drop]
  rw [List.mem_append, List.mem_cons, h]
  constructor
  · rintro (a | a | a)
    · exact .inr (.inl a)
    · exact .inl a
    · exact .inr (.inr a)
  · rintro (a | a | a)
    · exact .inr (.inl a)
    · exact .inl a
    · exact .inr (.inr a)
theorem ordIn_mem {l : LG} {i : Nat} {acc : List TX} {x : TX} : ∀ {d : Nat}, x ∈ ordIn l i acc d ↔ x ∈ acc ∨ ∃ k, k < d ∧ (l i)[k]? = some x
  | 0 => by
    constructor
    · intro h; exact .inl h
    · rintro (h | ⟨k, hk, _⟩)
      · exact h
      · exact absurd hk (Nat.not_lt_zero _)
  | d + 1 => by
    cases h : (l i)[d]? with
    | none =>
      have e : ordIn l i acc (d + 1) = ordIn l i acc d := by
        show (match (l i)[d]? with | some t => _ | none => _) = _
        rw [h]
      rw [e, ordIn_mem]
      constructor
      · rintro (a | ⟨k, hk, a⟩)
        · exact .inl a
        · exact .inr ⟨k, by omega, a⟩
      · rintro (a | ⟨k, hk, a⟩)
        · exact .inl a
        · refine .inr ⟨k, ?_, a⟩
          rcases Nat.lt_or_ge k d with c | c
          · exact c
          · rw [show k = d by omega, h] at a
            cases a
    | some t =>
      rw [ordIn_at h, insT_mem, ordIn_mem]
      constructor
      · rintro (a | a | ⟨k, hk, a⟩)
        · exact .inr ⟨d, Nat.lt_succ_self _, by rw [h, a]⟩
        · exact .inl a
        · exact .inr ⟨k, by omega, a⟩
      · rintro (a | ⟨k, hk, a⟩)
        · exact .inr (.inl a)
        · rcases Nat.lt_or_ge k d with c | c
          · exact .inr (.inr ⟨k, c, a⟩)
          · rw [show k = d by omega, h] at a
            exact .inl (Option.some.inj a).symm
theorem ordTo_mem {l : LG} {v : Nat → Nat} {x : TX} : ∀ {n : Nat}, x ∈ ordTo l v n ↔ ∃ i k, i < n ∧ k < v i ∧ (l i)[k]? = some x
  | 0 => by
    constructor
    · intro h; cases h
    · rintro ⟨i, k, hi, _⟩; exact absurd hi (Nat.not_lt_zero _)
  | n + 1 => by
    show x ∈ ordIn l n (ordTo l v n) (v n) ↔ _
    rw [ordIn_mem, ordTo_mem]
    constructor
    · rintro (⟨i, k, hi, hk, a⟩ | ⟨k, hk, a⟩)
      · exact ⟨i, k, by omega, hk, a⟩
      · exact ⟨n, k, Nat.lt_succ_self _, hk, a⟩
    · rintro ⟨i, k, hi, hk, a⟩
      rcases Nat.lt_or_ge i n with c | c
      · exact .inl ⟨i, k, c, hk, a⟩
      · have e : i = n := by omega
        subst e
        exact .inr ⟨k, hk, a⟩
theorem ordR_mem {l : LG} {v : Nat → Nat} {x : TX} : x ∈ ordR l v ↔ InCut l v x := by
  unfold ordR InCut
  rw [ordTo_mem]
  constructor
  · rintro ⟨i, k, hi, hk, a⟩
    exact ⟨i, k, hi, by have : mt v (sizeV l) i = min (v i) (sizeV l i) := rfl; omega, a⟩
  · rintro ⟨i, k, hi, hk, a⟩
    have h1 := (List.getElem?_eq_some_iff.1 a).1
    have h2 : mt v (sizeV l) i = min (v i) ((l i).length) := rfl
    exact ⟨i, k, hi, by omega, a⟩
theorem opAt_some {t : TX} {j : Nat} {o : TO} (h : t.ops[j]? = some o) : opAt t j = o := by
  unfold opAt
  rw [List.getD_eq_getElem?_getD, h]
  rfl
theorem lastL_len (D : List DD) : (lastL D).length ≤ 1 := by
  unfold lastL
  cases topD (kindF 6 D) <;> simp [elemsD]
theorem valR_rising (kind start : Int) (D : List DD) : RisingS (valR kind start D).e := by
  unfold valR
  split
  · exact risingS_nil
  · split
    · exact riseT_rising _
    · split
      · exact (riseT_rising _).filter _
      · split
        · have h := lastL_len D
          show RisingS (lastL D)
          match lastL D, h with
          | [], _ => exact risingS_nil
          | [a], _ => exact List.pairwise_singleton _ _
        · split
          · exact riseT_rising _
          · exact risingS_nil
theorem valV_rising (kind start : Int) (l : LG) (v : Nat → Nat) (key : ByteArray) : RisingS (valV kind start l v key).e := by
  unfold valV
  split
  · exact valR_rising _ _ _
  · exact risingS_nil
end Go.Proofs.YtnjmgknicffcbaaGreatDoor
namespace Go.Proofs.YtnjmgknicffcbaaGreatDoor
open Go.RowKit Go.Joins
set_option linter.unusedSimpArgs false
set_option linter.unusedVariables false

/-- The cells of a place whose transaction's list is the slice v. -/
abbrev pcs (t : TX) (v : Value) (i : Nat) : Array Value := #[.int .i64 t.origin, .int .u64 (t.seq : Int), .int .u64 (t.stamp : Int), .int .u64 (t.deps 0 : Int), .int .u64 (t.deps 1 : Int), .int .u64 (t.deps 2 : Int), .int .u64 (t.deps 3 : Int), .int .u64 (t.deps 4 : Int), .int .u64 (t.deps 5 : Int), .int .u64 (t.deps 6 : Int), .int .u64 (t.deps 7 : Int), v, .int .i64 (i : Int)]
/-- A place lies here, its transaction's list being the slice v. -/
def PFix (w : World) (b off : Nat) (x : TX × Nat) (v : Value) : Prop := XFix w b off x.1 v ∧ w.cell? ⟨b, off + 12, none⟩ = some (.int .i64 (x.2 : Int))
theorem PFix.gr {w w' : World} {b off : Nat} {x : TX × Nat} {v : Value} (h : PFix w b off x v) (g : Gr w w') : PFix w' b off x v := ⟨h.1.gr g, g.cell h.2⟩
def PCl (w : World) (b off : Nat) (x : TX × Nat) : Prop := ∃ v, TOV w v x.1.ops ∧ PFix w b off x v
theorem PCl.gr {w w' : World} {b off : Nat} {x : TX × Nat} (h : PCl w b off x) (g : Gr w w') : PCl w' b off x := by
  obtain ⟨v, h1, h2⟩ := h
  exact ⟨v, h1.gr g, h2.gr g⟩
/-- The slice value v reads as these places. -/
def PLV (w : World) (v : Value) (L : List (TX × Nat)) : Prop :=
  ∃ A c, v = .slice A L.length c ∧ L.length ≤ c ∧ (c ≤ maxLen ∧ (A = Option.none → c = 0)) ∧ ∀ j (hj : j < L.length), ∃ b off, A = some ⟨b, off, none⟩ ∧ PCl w b (off + j * 13) L[j]
theorem PLV.gr {w w' : World} {v : Value} {L : List (TX × Nat)} (h : PLV w v L) (g : Gr w w') : PLV w' v L := by
  obtain ⟨A, c, hv, h1, h2, h3⟩ := h
  refine ⟨A, c, hv, h1, h2, fun j hj => ?_⟩
  obtain ⟨b, off, ha, hc⟩ := h3 j hj
  exact ⟨b, off, ha, hc.gr g⟩
/-- Did the operation y see the operation x? -/
def seenP (x y : TX × Nat) : Bool := if x.1.origin = y.1.origin ∧ x.1.seq = y.1.seq then decide (x.2 < y.2) else hasB y.1.deps x.1.origin x.1.seq
theorem opAt_get {x : TX × Nat} (h : x.2 < x.1.ops.length) : opAt x.1 x.2 = x.1.ops[x.2] := opAt_some (List.getElem?_eq_getElem h)
end Go.Proofs.YtnjmgknicffcbaaGreatDoor
namespace Go.Proofs.YtnjmgknicffcbaaGreatDoor
open Go.RowKit Go.Joins
set_option linter.unusedSimpArgs false
set_option linter.unusedVariables false

abbrev PR := (TX × Nat) × Value
def pcl (r : PR) : List Value := (pcs r.1.1 r.2 r.1.2).toList
def pcells (R : List PR) : List Value := R.flatMap pcl
/-- The call owns this row of places. -/
def PLO (w : World) (B : Nat) (v : Value) (R : List PR) : Prop := w.ownsRow B 146 13 v R.length (pcells R)
/-- The places' lists of operations lie there. -/
def PLT (w : World) (R : List PR) : Prop := ∀ r ∈ R, TOV w r.2 r.1.1.ops
theorem PLO.gr {w w' : World} {B : Nat} {v : Value} {R : List PR} (h : PLO w B v R) (g : Gr w w') : PLO w' B v R := own_gr h g
theorem PLT.gr {w w' : World} {R : List PR} (h : PLT w R) (g : Gr w w') : PLT w' R := fun r hr => (h r hr).gr g
theorem PLO.nil (w : World) (B : Nat) : PLO w B (.slice none 0 0) [] := World.ownsRow_nil w B _ _
/-- The places of a kind on a key: of one transaction the first j operations; of the first k transactions. -/
def isPl (key : ByteArray) (kind : Int) (o : TO) : Bool := eqS o.key key && decide (o.kind = kind)
def plTx (key : ByteArray) (kind : Int) (t : TX) : Nat → List (TX × Nat)
  | 0 => []
  | j + 1 => plTx key kind t j ++ (match t.ops[j]? with | some o => if isPl key kind o = true then [(t, j)] else [] | none => [])
def plTo (key : ByteArray) (kind : Int) (L : List TX) : Nat → List (TX × Nat)
  | 0 => []
  | k + 1 => plTo key kind L k ++ (match L[k]? with | some t => plTx key kind t t.ops.length | none => [])
def plL (key : ByteArray) (kind : Int) (L : List TX) : List (TX × Nat) := plTo key kind L L.length
/-- What the rounds of places leave. -/
structure PlS (w : World) (L : List (TX × Nat)) (R : List PR) (s : Value) (wr : World) : Prop where
  row : PLO wr w.heap.size s R
  tx : R.map (·.1) = L
  ops : PLT w R
  gr : Gr w wr
theorem PlS.next {w : World} {L : List (TX × Nat)} {R : List PR} {s : Value} {wr w' : World} (h : PlS w L R s wr) (g : Gr wr w') : PlS w L R s w' := ⟨h.row.gr g, h.tx, h.ops, h.gr.trans g⟩
end Go.Proofs.YtnjmgknicffcbaaGreatDoor
namespace Go.Proofs.YtnjmgknicffcbaaGreatDoor
open Go.RowKit Go.Joins
set_option linter.unusedSimpArgs false
set_option linter.unusedVariables false

def elP (x : TX × Nat) : ByteArray := (opAt x.1 x.2).elem
/-- Is there one of them, of the same element, that saw it? -/
def ansB (x : TX × Nat) (L : List (TX × Nat)) : Bool := L.any fun y => eqS (elP y) (elP x) && seenP x y
end Go.Proofs.YtnjmgknicffcbaaGreatDoor
namespace Go.Proofs.YtnjmgknicffcbaaGreatDoor
open Go.RowKit Go.Joins
set_option linter.unusedSimpArgs false
set_option linter.unusedVariables false

theorem plTx_mem {key : ByteArray} {kind : Int} {t : TX} : ∀ {j : Nat} {x : TX × Nat}, x ∈ plTx key kind t j ↔ x.1 = t ∧ x.2 < j ∧ ∃ o, t.ops[x.2]? = some o ∧ isPl key kind o = true
  | 0, x => by
    constructor
    · intro h; cases h
    · intro h; exact absurd h.2.1 (Nat.not_lt_zero _)
  | j + 1, x => by
    show x ∈ plTx key kind t j ++ _ ↔ _
    rw [List.mem_append, plTx_mem]
    constructor
    · rintro (⟨h1, h2, h3⟩ | h)
      · exact ⟨h1, by omega, h3⟩
      · split at h
        · next o ho =>
          split at h
          · next hk =>
            obtain rfl := List.mem_singleton.1 h
            exact ⟨rfl, Nat.lt_succ_self _, o, ho, hk⟩
          · cases h
        · cases h
    · rintro ⟨h1, h2, o, h3, h4⟩
      rcases Nat.lt_or_ge x.2 j with c | c
      · exact .inl ⟨h1, c, o, h3, h4⟩
      · have e : x.2 = j := by omega
        refine .inr ?_
        rw [← e, h3]
        simp only [h4, if_true]
        exact List.mem_singleton.2 (by rw [← h1])
theorem plTo_mem {key : ByteArray} {kind : Int} {L : List TX} : ∀ {k : Nat} {x : TX × Nat}, x ∈ plTo key kind L k ↔ (∃ i, i < k ∧ L[i]? = some x.1) ∧ ∃ o, x.1.ops[x.2]? = some o ∧ isPl key kind o = true
  | 0, x => by
    constructor
    · intro h; cases h
    · rintro ⟨⟨i, hi, _⟩, _⟩; exact absurd hi (Nat.not_lt_zero _)
  | k + 1, x => by
    show x ∈ plTo key kind L k ++ _ ↔ _
    rw [List.mem_append, plTo_mem]
    constructor
    · rintro (⟨⟨i, hi, h1⟩, h2⟩ | h)
      · exact ⟨⟨i, by omega, h1⟩, h2⟩
      · split at h
        · next t ht =>
          obtain ⟨h1, h2, h3⟩ := plTx_mem.1 h
          exact ⟨⟨k, Nat.lt_succ_self _, by rw [h1]; exact ht⟩, by rw [h1]; exact h3⟩
        · cases h
    · rintro ⟨⟨i, hi, h1⟩, o, h2, h3⟩
      rcases Nat.lt_or_ge i k with c | c
      · exact .inl ⟨⟨i, c, h1⟩, o, h2, h3⟩
      · have e : i = k := by omega
        refine .inr ?_
        rw [← e, h1]
        exact plTx_mem.2 ⟨rfl, (List.getElem?_eq_some_iff.1 h2).1, o, h2, h3⟩
theorem plL_mem {key : ByteArray} {kind : Int} {L : List TX} {x : TX × Nat} : x ∈ plL key kind L ↔ x.1 ∈ L ∧ ∃ o, x.1.ops[x.2]? = some o ∧ isPl key kind o = true := by
  unfold plL
  rw [plTo_mem]
  constructor
  · rintro ⟨⟨i, hi, h1⟩, h2⟩
    exact ⟨List.mem_of_getElem? h1, h2⟩
  · rintro ⟨h1, h2⟩
    obtain ⟨i, hi⟩ := List.mem_iff_getElem?.1 h1
    exact ⟨⟨i, (List.getElem?_eq_some_iff.1 hi).1, hi⟩, h2⟩
end Go.Proofs.YtnjmgknicffcbaaGreatDoor
namespace Go.Proofs.YtnjmgknicffcbaaGreatDoor
open Go.RowKit Go.Joins
set_option linter.unusedSimpArgs false
set_option linter.unusedVariables false

/-- A box of a value lies here. -/
def QBox (w : World) (Q : Nat) (n : Int) (A : Option Addr) (m c : Nat) (on : Bool) : Prop := w.heap[Q]? = some (.cells #[.int .i64 n, .slice A m c, .bool on] 95 (0, 0))
theorem QBox.gr {w w' : World} {Q : Nat} {n : Int} {A : Option Addr} {m c : Nat} {on : Bool} (h : QBox w Q n A m c on) (g : Gr w w') : QBox w' Q n A m c on := gr_obj g h
theorem QBox.cells {w : World} {Q : Nat} {n : Int} {A : Option Addr} {m c : Nat} {on : Bool} (h : QBox w Q n A m c on) : w.cell? ⟨Q, 0, none⟩ = some (.int .i64 n) ∧ w.cell? ⟨Q, 1, none⟩ = some (.slice A m c) ∧ w.cell? ⟨Q, 2, none⟩ = some (.bool on) := by
  have h : w.heap[Q]? = _ := h
  refine ⟨?_, ?_, ?_⟩ <;> (rw [cell_of_block h]; rfl)
theorem QBox.fz {w : World} {Q : Nat} {n : Int} {A : Option Addr} {m c : Nat} {on : Bool} (h : QBox w Q n A m c on) : w.frozen? ⟨Q, 0, none⟩ = false ∧ w.frozen? ⟨Q, 1, none⟩ = false ∧ w.frozen? ⟨Q, 2, none⟩ = false :=
  ⟨unfrozen_of_block h 0, unfrozen_of_block h 1, unfrozen_of_block h 2⟩
theorem QBox.lt {w : World} {Q : Nat} {n : Int} {A : Option Addr} {m c : Nat} {on : Bool} (h : QBox w Q n A m c on) : Q < w.heap.size := (Array.getElem?_eq_some_iff.1 h).1
theorem QBox.set1 {w : World} {Q : Nat} {n : Int} {A : Option Addr} {m c : Nat} {on : Bool} (h : QBox w Q n A m c on) (A' : Option Addr) (m' c' : Nat) : QBox (w.setCell ⟨Q, 1, none⟩ (.slice A' m' c')) Q n A' m' c' on := set_obj (i := 1) h _
theorem QBox.set2 {w : World} {Q : Nat} {n : Int} {A : Option Addr} {m c : Nat} {on : Bool} (h : QBox w Q n A m c on) (on' : Bool) : QBox (w.setCell ⟨Q, 2, none⟩ (.bool on')) Q n A m c on' := set_obj (i := 2) h _
/-- No string lies in a box of a value. -/
theorem QBox.ne {w : World} {Q : Nat} {n : Int} {A : Option Addr} {m c : Nat} {on : Bool} (h : QBox w Q n A m c on) {b i : Nat} {s : ByteArray} (hc : w.cell? ⟨b, i, none⟩ = some (.string s)) : b ≠ Q := by
  intro e
  subst e
  have h : w.heap[b]? = _ := h
  rw [cell_of_block h] at hc
  match i with
  | 0 => cases hc
  | 1 => cases hc
  | 2 => cases hc
  | k + 3 => cases hc
theorem SV.kq {w w' : World} {Q : Nat} {n : Int} {A : Option Addr} {m c : Nat} {on : Bool} (h : QBox w Q n A m c on) (k : Kp (some Q) w w') {v : Value} {E : List ByteArray} (hv : SV w v E) : SV w' v E := by
  obtain ⟨A', c', hv', h1, h2, h3⟩ := hv
  refine ⟨A', c', hv', h1, h2, fun j hj => ?_⟩
  obtain ⟨b, off, ha, hc⟩ := h3 j hj
  exact ⟨b, off, ha, k.cellNe hc (h.ne hc)⟩
theorem TOV.kq {w w' : World} {Q : Nat} {n : Int} {A : Option Addr} {m c : Nat} {on : Bool} (h : QBox w Q n A m c on) (k : Kp (some Q) w w') {v : Value} {L : List TO} (hv : TOV w v L) : TOV w' v L := by
  obtain ⟨A', c', hv', h1, h2, h3⟩ := hv
  refine ⟨A', c', hv', h1, h2, fun j hj => ?_⟩
  obtain ⟨b, off, ha, c0, c1, c2, c3⟩ := h3 j hj
  have hb := h.ne c1
  exact ⟨b, off, ha, k.cellNe c0 hb, k.cellNe c1 hb, k.cellNe c2 hb, k.cellNe c3 hb⟩
theorem PLT.kq {w w' : World} {Q : Nat} {n : Int} {A : Option Addr} {m c : Nat} {on : Bool} (h : QBox w Q n A m c on) (k : Kp (some Q) w w') {R : List PR} (hv : PLT w R) : PLT w' R := fun r hr => TOV.kq h k (hv r hr)
theorem PLO.kq {w w' : World} {Q B : Nat} {n : Int} {A : Option Addr} {m c : Nat} {on : Bool} (h : QBox w Q n A m c on) (k : Kp (some Q) w w') {v : Value} {R : List PR} (hv : PLO w B v R) : PLO w' B v R :=
  World.ownsRow.kept hv k (.inr (own_ne_obj hv h (by decide)))
/-- A row of places and what they tell. -/
structure PLR (w : World) (v : Value) (L : List (TX × Nat)) : Prop where
  ex : ∃ B R, PLO w B v R ∧ R.map (·.1) = L ∧ PLT w R
theorem PLR.gr {w w' : World} {v : Value} {L : List (TX × Nat)} (h : PLR w v L) (g : Gr w w') : PLR w' v L := by
  obtain ⟨B, R, h1, h2, h3⟩ := h.ex
  exact ⟨B, R, h1.gr g, h2, h3.gr g⟩
theorem PLR.kq {w w' : World} {Q : Nat} {n : Int} {A : Option Addr} {m c : Nat} {on : Bool} (h : QBox w Q n A m c on) (k : Kp (some Q) w w') {v : Value} {L : List (TX × Nat)} (hv : PLR w v L) : PLR w' v L := by
  obtain ⟨B, R, h1, h2, h3⟩ := hv.ex
  exact ⟨B, R, h1.kq h k, h2, h3.kq h k⟩
end Go.Proofs.YtnjmgknicffcbaaGreatDoor
namespace Go.Proofs.YtnjmgknicffcbaaGreatDoor
open Go.RowKit

/-- N: the last operation; Q: what each other one has left; F: what the store leaves; ed: which operation waits for which. -/
structure RL (W0 : World) (N : Nat) (Q : Nat → World → Value → Prop) (F : World → Prop) (ed : List (Nat × Nat)) (vals : Vals) (w : World) : Prop where
  st : ∀ k y w1 w2, Q k w1 y → Gr w1 w2 → Q k w2 y
  pre : vals N = none → Gr W0 w ∧ ∀ k y, vals k = some y → Q k w y
  fin : vals N ≠ none → F w
  ch : ∀ e ∈ ed, vals e.1 = none → vals e.2 = none
section
variable {W0 : World} {N : Nat} {Q : Nat → World → Value → Prop} {F : World → Prop} {ed : List (Nat × Nat)} {vals : Vals} {w : World}
theorem RL.gr (h : RL W0 N Q F ed vals w) (hN : vals N = none) : Gr W0 w := (h.pre hN).1
theorem RL.ok (h : RL W0 N Q F ed vals w) (hN : vals N = none) {k : Nat} {y : Value} (hy : vals k = some y) : Q k w y := (h.pre hN).2 k y hy
theorem RL.val (h : RL W0 N Q F ed vals w) {k : Nat} {y : Value} {w' : World} (hN : vals N = none) (hk : k ≠ N) (hpre : (ed.all fun e => !(e.2 == k) || (vals e.1).isSome) = true) (g : Gr w w') (hq : Q k w' y) : RL W0 N Q F ed (vals.up k y) w' := by
  have eN : vals.up k y N = vals N := Vals.up_ne vals y (Ne.symm hk)
  refine ⟨h.st, fun _ => ⟨(h.gr hN).trans g, fun j x hx => ?_⟩, fun hc => absurd (by rw [eN]; exact hN) hc, fun e he h1 => ?_⟩
  · by_cases ej : j = k
    · subst ej
      rw [Vals.up_at] at hx
      rw [← Option.some.inj hx]
      exact hq
    · rw [Vals.up_ne vals y ej] at hx
      exact h.st _ _ _ _ (h.ok hN hx) g
  · have e1 : e.1 ≠ k := fun c => by rw [c, Vals.up_at] at h1; cases h1
    rw [Vals.up_ne vals y e1] at h1
    have e2 : e.2 ≠ k := fun c => by
      have := List.all_eq_true.1 hpre e he
      rw [c] at this
      simp [h1] at this
    rw [Vals.up_ne vals y e2]
    exact h.ch e he h1
end
structure SpecG where
  P : World → Value → Prop
  st : ∀ y w1 w2, P w1 y → Gr w1 w2 → P w2 y
def SpecG.any : SpecG := ⟨fun _ _ => True, fun _ _ _ _ _ => trivial⟩
end Go.Proofs.YtnjmgknicffcbaaGreatDoor
