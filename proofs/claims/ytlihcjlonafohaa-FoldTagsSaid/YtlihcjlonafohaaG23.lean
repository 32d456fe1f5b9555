/- Texts VsM, VdA, FoA, FoB, joined. -/
import Derived.Test.YtlihcjlonafohaaG20
import Derived.Test.YtlihcjlonafohaaG22
import Derived.Test.YtlihcjlonafohaaG08
import Derived.Test.YtlihcjlonafohaaG07
/- Plain mathematics of values: which operations there are in a cut, in the order of members and in the document's order; what elements a value has. -/
namespace Go.Proofs.Ytlihcjlonafohaa

/-- A transaction of the cut. -/
def InCut (l : LG) (v : Nat → Nat) (t : TX) : Prop := ∃ i k, i < 8 ∧ k < v i ∧ (l i)[k]? = some t
theorem dTx_mem {key : ByteArray} {t : TX} : ∀ {j : Nat} {x : TX × Nat}, x ∈ dTx key t j ↔ x.1 = t ∧ x.2 < j ∧ ∃ o, t.ops[x.2]? = some o ∧ eqS o.key key = true
  | 0, x => by
    constructor
    · intro h; cases h
    · intro h; exact absurd h.2.1 (Nat.not_lt_zero _)
  | j + 1, x => by
    unfold dTx
    rw [List.mem_append, dTx_mem]
    constructor
    · rintro (⟨h1, h2, h3⟩ | h)
      · exact ⟨h1, by omega, h3⟩
      · split at h
        · next o ho =>
          split at h
          · next hk =>
            obtain rfl := List.mem_singleton.1 h
            exact ⟨rfl, Nat.lt_succ_self _, o, ho, hk⟩
          · cases h
        · cases h
    · rintro ⟨h1, h2, o, h3, h4⟩
      rcases Nat.lt_or_ge x.2 j with c | c
      · exact .inl ⟨h1, c, o, h3, h4⟩
      · have e : x.2 = j := by omega
        refine .inr ?_
        rw [← e, h3]
        simp only [h4, if_true]
        exact List.mem_singleton.2 (by rw [← h1])
theorem dLog_mem {key : ByteArray} {l : LG} {i : Nat} : ∀ {d : Nat} {x : TX × Nat}, x ∈ dLog key l i d ↔ (∃ k, k < d ∧ (l i)[k]? = some x.1) ∧ ∃ o, x.1.ops[x.2]? = some o ∧ eqS o.key key = true
  | 0, x => by
    constructor
    · intro h; cases h
    · rintro ⟨⟨k, hk, _⟩, _⟩; exact absurd hk (Nat.not_lt_zero _)
  | d + 1, x => by
    unfold dLog
    rw [List.mem_append, dLog_mem]
    constructor
    · rintro (⟨⟨k, hk, h1⟩, h2⟩ | h)
      · exact ⟨⟨k, by omega, h1⟩, h2⟩
      · split at h
        · next t ht =>
          obtain ⟨h1, h2, h3⟩ := dTx_mem.1 h
          exact ⟨⟨d, Nat.lt_succ_self _, by rw [h1]; exact ht⟩, by rw [h1]; exact h3⟩
        · cases h
    · rintro ⟨⟨k, hk, h1⟩, o, h2, h3⟩
      rcases Nat.lt_or_ge k d with c | c
      · exact .inl ⟨⟨k, c, h1⟩, o, h2, h3⟩
      · have e : k = d := by omega
        refine .inr ?_
        rw [← e, h1]
        exact dTx_mem.2 ⟨rfl, (List.getElem?_eq_some_iff.1 h2).1, o, h2, h3⟩
theorem dAll_mem {key : ByteArray} {l : LG} {v : Nat → Nat} : ∀ {n : Nat} {x : TX × Nat}, x ∈ dAll key l v n ↔ (∃ i k, i < n ∧ k < v i ∧ (l i)[k]? = some x.1) ∧ ∃ o, x.1.ops[x.2]? = some o ∧ eqS o.key key = true
  | 0, x => by
    constructor
    · intro h; cases h
    · rintro ⟨⟨i, k, hi, _⟩, _⟩; exact absurd hi (Nat.not_lt_zero _)
  | n + 1, x => by
    unfold dAll
    rw [List.mem_append, dAll_mem, dLog_mem]
    constructor
    · rintro (⟨⟨i, k, hi, hk, h1⟩, h2⟩ | ⟨⟨k, hk, h1⟩, h2⟩)
      · exact ⟨⟨i, k, by omega, hk, h1⟩, h2⟩
      · exact ⟨⟨n, k, Nat.lt_succ_self _, hk, h1⟩, h2⟩
    · rintro ⟨⟨i, k, hi, hk, h1⟩, h2⟩
      rcases Nat.lt_or_ge i n with c | c
      · exact .inl ⟨⟨i, k, c, hk, h1⟩, h2⟩
      · have e : i = n := by omega
        subst e
        exact .inr ⟨⟨k, hk, h1⟩, h2⟩
theorem insT_mem {t x : TX} {L : List TX} : x ∈ insT t L ↔ x = t ∨ x ∈ L := by
  unfold insT
  have h : x ∈ L ↔ x ∈ L.take (plc t L L.length) ∨ x ∈ L.drop (plc t L L.length) := by
    rw [← List.mem_append, List.take_append_drop]
  rw [List.mem_append, List.mem_cons, h]
  constructor
  · rintro (a | a | a)
    · exact .inr (.inl a)
    · exact .inl a
    · exact .inr (.inr a)
  · rintro (a | a | a)
    · exact .inr (.inl a)
    · exact .inl a
    · exact .inr (.inr a)
theorem ordIn_mem {l : LG} {i : Nat} {acc : List TX} {x : TX} : ∀ {d : Nat}, x ∈ ordIn l i acc d ↔ x ∈ acc ∨ ∃ k, k < d ∧ (l i)[k]? = some x
  | 0 => by
    constructor
    · intro h; exact .inl h
    · rintro (h | ⟨k, hk, _⟩)
      · exact h
      · exact absurd hk (Nat.not_lt_zero _)
  | d + 1 => by
    cases h : (l i)[d]? with
    | none =>
      have e : ordIn l i acc (d + 1) = ordIn l i acc d := by
        show (match (l i)[d]? with | some t => _ | none => _) = _
        rw [h]
      rw [e, ordIn_mem]
      constructor
      · rintro (a | ⟨k, hk, a⟩)
        · exact .inl a
        · exact .inr ⟨k, by omega, a⟩
      · rintro (a | ⟨k, hk, a⟩)
        · exact .inl a
        · refine .inr ⟨k, ?_, a⟩
          rcases Nat.lt_or_ge k d with c | c
          · exact c
          · rw [show k = d by omega, h] at a
            cases a
    | some t =>
      rw [ordIn_at h, insT_mem, ordIn_mem]
      constructor
      · rintro (a | a | ⟨k, hk, a⟩)
        · exact .inr ⟨d, Nat.lt_succ_self _, by rw [h, a]⟩
        · exact .inl a
        · exact .inr ⟨k, by omega, a⟩
      · rintro (a | ⟨k, hk, a⟩)
        · exact .inr (.inl a)
        · rcases Nat.lt_or_ge k d with c | c
          · exact .inr (.inr ⟨k, c, a⟩)
          · rw [show k = d by omega, h] at a
            exact .inl (Option.some.inj a).symm
theorem ordTo_mem {l : LG} {v : Nat → Nat} {x : TX} : ∀ {n : Nat}, x ∈ ordTo l v n ↔ ∃ i k, i < n ∧ k < v i ∧ (l i)[k]? = some x
  | 0 => by
    constructor
    · intro h; cases h
    · rintro ⟨i, k, hi, _⟩; exact absurd hi (Nat.not_lt_zero _)
  | n + 1 => by
    show x ∈ ordIn l n (ordTo l v n) (v n) ↔ _
    rw [ordIn_mem, ordTo_mem]
    constructor
    · rintro (⟨i, k, hi, hk, a⟩ | ⟨k, hk, a⟩)
      · exact ⟨i, k, by omega, hk, a⟩
      · exact ⟨n, k, Nat.lt_succ_self _, hk, a⟩
    · rintro ⟨i, k, hi, hk, a⟩
      rcases Nat.lt_or_ge i n with c | c
      · exact .inl ⟨i, k, c, hk, a⟩
      · have e : i = n := by omega
        subst e
        exact .inr ⟨k, hk, a⟩
theorem ordR_mem {l : LG} {v : Nat → Nat} {x : TX} : x ∈ ordR l v ↔ InCut l v x := by
  unfold ordR InCut
  rw [ordTo_mem]
  constructor
  · rintro ⟨i, k, hi, hk, a⟩
    exact ⟨i, k, hi, by have : mt v (sizeV l) i = min (v i) (sizeV l i) := rfl; omega, a⟩
  · rintro ⟨i, k, hi, hk, a⟩
    have h1 := (List.getElem?_eq_some_iff.1 a).1
    have h2 : mt v (sizeV l) i = min (v i) ((l i).length) := rfl
    exact ⟨i, k, hi, by omega, a⟩
theorem opAt_some {t : TX} {j : Nat} {o : TO} (h : t.ops[j]? = some o) : opAt t j = o := by
  unfold opAt
  rw [List.getD_eq_getElem?_getD, h]
  rfl
/-- Elements come from deeds that add or write. -/
theorem valR_elem {kind start : Int} {D : List DD} {s : ByteArray} (h : s ∈ (valR kind start D).e) : ∃ d ∈ D, d.op.elem = s ∧ (d.op.kind = 4 ∨ d.op.kind = 6) := by
  have hk : ∀ {k : Int} {d : DD}, d ∈ kindF k D → d ∈ D ∧ d.op.kind = k := fun {k d} hd => ⟨kindF_mem hd, by simpa using (List.mem_filter.1 hd).2⟩
  have hu : ∀ {a b : Int}, s ∈ elemsD (unsL a b D) → ∃ d ∈ D, d.op.elem = s ∧ d.op.kind = a := fun {a b} hs => by
    obtain ⟨d, hd, e⟩ := List.mem_map.1 hs
    obtain ⟨h1, h2⟩ := hk (List.mem_filter.1 hd).1
    exact ⟨d, h1, e, h2⟩
  unfold valR at h
  split at h
  · cases h
  · split at h
    · obtain ⟨d, h1, h2, h3⟩ := hu (mem_riseT.1 h)
      exact ⟨d, h1, h2, .inl h3⟩
    · split at h
      · have h : s ∈ firmL D := h
        obtain ⟨d, hd, e⟩ := List.mem_map.1 (mem_riseT.1 (List.mem_filter.1 h).1)
        obtain ⟨h1, h2⟩ := hk hd
        exact ⟨d, h1, e, .inl h2⟩
      · split at h
        · have h : s ∈ lastL D := h
          obtain ⟨d, hd, e⟩ := List.mem_map.1 h
          obtain ⟨h1, h2⟩ := hk (topD_mem (by simpa using hd))
          exact ⟨d, h1, e, .inr h2⟩
        · split at h
          · obtain ⟨d, h1, h2, h3⟩ := hu (mem_riseT.1 h)
            exact ⟨d, h1, h2, .inr h3⟩
          · cases h
theorem lastL_len (D : List DD) : (lastL D).length ≤ 1 := by
  unfold lastL
  cases topD (kindF 6 D) <;> simp [elemsD]
theorem valR_rising (kind start : Int) (D : List DD) : RisingS (valR kind start D).e := by
  unfold valR
  split
  · exact risingS_nil
  · split
    · exact riseT_rising _
    · split
      · exact (riseT_rising _).filter _
      · split
        · have h := lastL_len D
          show RisingS (lastL D)
          match lastL D, h with
          | [], _ => exact risingS_nil
          | [a], _ => exact List.pairwise_singleton _ _
        · split
          · exact riseT_rising _
          · exact risingS_nil
theorem valV_rising (kind start : Int) (l : LG) (v : Nat → Nat) (key : ByteArray) : RisingS (valV kind start l v key).e := by
  unfold valV
  split
  · exact valR_rising _ _ _
  · exact risingS_nil
theorem valV_elem {kind start : Int} {l : LG} {v : Nat → Nat} {key s : ByteArray} (h : s ∈ (valV kind start l v key).e) : ∃ t ∈ ordR l v, ∃ o ∈ t.ops, eqS o.key key = true ∧ o.elem = s ∧ (o.kind = 4 ∨ o.kind = 6) := by
  unfold valV at h
  split at h
  · obtain ⟨d, hd, h1, h2⟩ := valR_elem h
    obtain ⟨x, hx, rfl⟩ := List.mem_map.1 hd
    obtain ⟨⟨i, k, hi, hk, h3⟩, o, h4, h5⟩ := dAll_mem.1 hx
    have e : (toD x).op = o := opAt_some h4
    rw [e] at h1 h2
    exact ⟨x.1, ordR_mem.2 ⟨i, k, hi, hk, h3⟩, o, List.mem_of_getElem? h4, h5, h1, h2⟩
  · cases h
theorem valV_none {kind start : Int} {l : LG} {v : Nat → Nat} {key : ByteArray} (h : ¬ valE kind l v = 0) : valV kind start l v key = ⟨0, [], false⟩ := if_neg h
theorem valE_ok {kind : Int} {l : LG} {v : Nat → Nat} (h : valE kind l v = 0) : (1 ≤ kind ∧ kind ≤ 8) ∧ OkL l ∧ closedP l v := by
  unfold valE at h
  split at h
  · cases h
  · split at h
    · next hk hc =>
      split at h
      · next hcl => exact ⟨by omega, okL_iff.1 hc, closedB_iff.1 hcl⟩
      · cases h
    · next hk hc => exact absurd h hc
/-- Is there such an operation among the first k transactions, and the first j operations of the next one? -/
def fndO (key s : ByteArray) (o : TO) : Bool := eqS o.key key && (eqS o.elem s && (decide (o.kind = 4) || decide (o.kind = 6)))
def fndB (key s : ByteArray) (L : List TX) (k j : Nat) : Bool := (L.take k).any (fun t => t.ops.any (fndO key s)) || (((L[k]?.map (·.ops)).getD []).take j).any (fndO key s)
theorem fndB_zero (key s : ByteArray) (L : List TX) : fndB key s L 0 0 = false := rfl
theorem fndB_op {key s : ByteArray} {L : List TX} {k j : Nat} {t : TX} {o : TO} (hk : L[k]? = some t) (hj : t.ops[j]? = some o) : fndB key s L k (j + 1) = (fndB key s L k j || fndO key s o) := by
  unfold fndB
  rw [hk]
  simp only [Option.map_some, Option.getD_some]
  rw [List.take_add_one, hj, List.any_append, Bool.or_assoc]
  simp
theorem fndB_tx {key s : ByteArray} {L : List TX} {k : Nat} {t : TX} (hk : L[k]? = some t) : fndB key s L k t.ops.length = fndB key s L (k + 1) 0 := by
  unfold fndB
  rw [hk]
  simp only [Option.map_some, Option.getD_some]
  rw [List.take_length, List.take_add_one, hk, List.any_append]
  simp
theorem fndB_all {key s : ByteArray} {L : List TX} (h : ∃ t ∈ L, ∃ o ∈ t.ops, eqS o.key key = true ∧ o.elem = s ∧ (o.kind = 4 ∨ o.kind = 6)) : fndB key s L L.length 0 = true := by
  unfold fndB
  rw [List.take_length]
  obtain ⟨t, ht, o, ho, h1, h2, h3⟩ := h
  have : L.any (fun t => t.ops.any (fndO key s)) = true := List.any_eq_true.2 ⟨t, ht, List.any_eq_true.2 ⟨o, ho, by
    unfold fndO
    rw [h1, h2, eqS_self]
    rcases h3 with h3 | h3 <;> simp [h3]⟩⟩
  rw [this]
  rfl
end Go.Proofs.Ytlihcjlonafohaa
/- Places (an operation of a transaction) as the document lays them; walks: a place's operation; seen. -/
namespace Go.Proofs.Ytlihcjlonafohaa
open Go.RowKit Go.Joins
set_option linter.unusedSimpArgs false
set_option linter.unusedVariables false

/-- The cells of a place whose transaction's list is the slice v. -/
abbrev pcs (t : TX) (v : Value) (i : Nat) : Array Value := #[.int .i64 t.origin, .int .u64 (t.seq : Int), .int .u64 (t.stamp : Int), .int .u64 (t.deps 0 : Int), .int .u64 (t.deps 1 : Int), .int .u64 (t.deps 2 : Int), .int .u64 (t.deps 3 : Int), .int .u64 (t.deps 4 : Int), .int .u64 (t.deps 5 : Int), .int .u64 (t.deps 6 : Int), .int .u64 (t.deps 7 : Int), v, .int .i64 (i : Int)]
/-- A place lies here, its transaction's list being the slice v. -/
def PFix (w : World) (b off : Nat) (x : TX × Nat) (v : Value) : Prop := XFix w b off x.1 v ∧ w.cell? ⟨b, off + 12, none⟩ = some (.int .i64 (x.2 : Int))
theorem PFix.gr {w w' : World} {b off : Nat} {x : TX × Nat} {v : Value} (h : PFix w b off x v) (g : Gr w w') : PFix w' b off x v := ⟨h.1.gr g, g.cell h.2⟩
def PCl (w : World) (b off : Nat) (x : TX × Nat) : Prop := ∃ v, TOV w v x.1.ops ∧ PFix w b off x v
theorem PCl.gr {w w' : World} {b off : Nat} {x : TX × Nat} (h : PCl w b off x) (g : Gr w w') : PCl w' b off x := by
  obtain ⟨v, h1, h2⟩ := h
  exact ⟨v, h1.gr g, h2.gr g⟩
/-- The slice value v reads as these places. -/
def PLV (w : World) (v : Value) (L : List (TX × Nat)) : Prop :=
  ∃ A c, v = .slice A L.length c ∧ L.length ≤ c ∧ (c ≤ maxLen ∧ (A = Option.none → c = 0)) ∧ ∀ j (hj : j < L.length), ∃ b off, A = some ⟨b, off, none⟩ ∧ PCl w b (off + j * 13) L[j]
theorem PLV.gr {w w' : World} {v : Value} {L : List (TX × Nat)} (h : PLV w v L) (g : Gr w w') : PLV w' v L := by
  obtain ⟨A, c, hv, h1, h2, h3⟩ := h
  refine ⟨A, c, hv, h1, h2, fun j hj => ?_⟩
  obtain ⟨b, off, ha, hc⟩ := h3 j hj
  exact ⟨b, off, ha, hc.gr g⟩
theorem plv_form {w : World} {v : Value} {L : List (TX × Nat)} (h : PLV w v L) : ∃ A c, v = .slice A L.length c := by
  obtain ⟨A, c, hv, _⟩ := h
  exact ⟨A, c, hv⟩
/-- Did the operation y see the operation x? -/
def seenP (x y : TX × Nat) : Bool := if x.1.origin = y.1.origin ∧ x.1.seq = y.1.seq then decide (x.2 < y.2) else hasB y.1.deps x.1.origin x.1.seq
theorem opAt_get {x : TX × Nat} (h : x.2 < x.1.ops.length) : opAt x.1 x.2 = x.1.ops[x.2] := opAt_some (List.getElem?_eq_getElem h)
end Go.Proofs.Ytlihcjlonafohaa
/- Tags, as fold keeps them; walks: comparing them; the kinds. -/
namespace Go.Proofs.Ytlihcjlonafohaa
open Go.RowKit Go.Joins
set_option linter.unusedSimpArgs false
set_option linter.unusedVariables false

/-- A tag. -/
structure TG where
  o : Int
  i : Int
  s : Nat
  e : ByteArray
/-- The cells of a tag. -/
abbrev tgv (t : TG) : Array Value := #[.int .i64 t.o, .int .i64 t.i, .int .u64 (t.s : Int), .string t.e]
/-- A tag lies here. -/
def TGc (w : World) (b off : Nat) (t : TG) : Prop := w.cell? ⟨b, off, none⟩ = some (.int .i64 t.o) ∧ w.cell? ⟨b, off + 1, none⟩ = some (.int .i64 t.i) ∧ w.cell? ⟨b, off + 2, none⟩ = some (.int .u64 (t.s : Int)) ∧ w.cell? ⟨b, off + 3, none⟩ = some (.string t.e)
theorem TGc.gr {w w' : World} {b off : Nat} {t : TG} (h : TGc w b off t) (g : Gr w w') : TGc w' b off t := ⟨g.cell h.1, g.cell h.2.1, g.cell h.2.2.1, g.cell h.2.2.2⟩
theorem tgbox (w : World) (t : TG) : ∃ W, W = w.alloc (.cells (tgv t) 36) ∧ Gr w W ∧ TGc W w.heap.size 0 t := by
  refine ⟨_, rfl, (Gr.refl w).alloc _, ?_, ?_, ?_, ?_⟩ <;> (rw [cell_of_block (heap_alloc w (tgv t) 36)]; rfl)
/-- As order tells. -/
def ordG (x y : TG) : Int := orL [cmpZ x.o y.o, cmpZ x.s y.s, cmpZ x.i y.i]
/-- What the region of order reads. -/
structure OG (w0 : World) (A B : Nat) (x y : TG) (w : World) : Prop where
  at' : ∃ q, w = w0.drewN q
  a : TGc w A 0 x
  b : TGc w B 0 y
theorem OG.drew {w0 : World} {A B : Nat} {x y : TG} (h : OG w0 A B x y w0) : OG w0 A B x y w0.drew := by
  have g : Gr w0 w0.drew := (Gr.refl w0).drew
  exact ⟨⟨1, rfl⟩, h.a.gr g, h.b.gr g⟩
set_option maxRecDepth 100000 in
set_option maxHeartbeats 4000000 in
theorem orderG_any (x y : TG) (w : World) :
    Calls Try.prog 54 #[.agg (tgv x), .agg (tgv y)] w fun e w' => e = .returned (.int .i64 (ordG x y)) ∧ Gr w w' := by
  obtain ⟨W1, hW1, hg1, h1⟩ := tgbox w x
  obtain ⟨W, hW, hg2, h2⟩ := tgbox W1 y
  have hs : W1.heap.size = w.heap.size + 1 := by rw [hW1]; simp
  rw [hs] at h2
  have hg := hg1.trans hg2
  have HOG : Hid (OG W w.heap.size (w.heap.size + 1) x y W) := Lib.hid ⟨⟨0, rfl⟩, h1.gr hg2, h2⟩
  have HG := Lib.hid hg
  rw [hW1] at hW
  obtain ⟨c1, hc1⟩ : ∃ z, z = cmpZ x.o y.o := ⟨_, rfl⟩
  obtain ⟨c2, hc2⟩ : ∃ z, z = cmpZ x.s y.s := ⟨_, rfl⟩
  obtain ⟨c3, hc3⟩ : ∃ z, z = cmpZ x.i y.i := ⟨_, rfl⟩
  have HR : Hid (ordG x y = orL [c1, c2, c3]) := Lib.hid (by rw [hc1, hc2, hc3]; rfl)
  have C1 := Lib.hid (fun w1 => cmp_int x.o y.o w1)
  have C2 := Lib.hid (fun w1 => cmp_u64 (x.s : Int) (y.s : Int) w1)
  have C3 := Lib.hid (fun w1 => cmp_int x.i y.i w1)
  rw [← hc1] at C1
  rw [← hc2] at C2
  rw [← hc3] at C3
  obtain ⟨r, hr⟩ : ∃ r, r = ordG x y := ⟨_, rfl⟩
  rw [← hr] at HR ⊢
  clear hg h1 h2 hc1 hc2 hc3 hr hg1 hg2 hs hW1
  go_enter Try.func54, Try.ntmps54
  go_upto_region 1 with (fail)
  rw [← hW]
  clear hW
  refine qTail 15 (fun w' => OG W w.heap.size (w.heap.size + 1) x y w') (by kernel_rfl) (by kernel_rfl) HOG.out.drew ?_
  simp only [List.take_succ_cons, List.take_zero, List.drop_succ_cons, List.drop_zero]
  iterate 4
    refine qTake (by kernel_rfl) ?_
    apply Exists.intro
    refine ⟨fun wq hq => ?_, ?_⟩
    · go_light
      obtain ⟨-, ⟨a0, a1, a2, a3⟩, ⟨b0, b1, b2, b3⟩⟩ := hq
      go_simp
      try with_reducible rfl
      done
    try simp only [Act.put, List.setIfInBounds_toArray, List.set_cons_zero, List.set_cons_succ]
  refine qCall (by kernel_rfl) ?_
  apply Exists.intro
  refine ⟨?_, ?_⟩
  · apply Exists.intro
    apply Exists.intro
    refine ⟨fun wq => ?_, fun wq hq => ?_⟩
    · go_light
      go_simp
      exact ⟨rfl, rfl⟩
    · exact (C1.out wq).mono fun e w'' ⟨he, hw⟩ => ⟨he, by rw [hw]; exact hq⟩
  try simp only [Act.put, List.setIfInBounds_toArray, List.set_cons_zero, List.set_cons_succ]
  iterate 4
    refine qTake (by kernel_rfl) ?_
    apply Exists.intro
    refine ⟨fun wq hq => ?_, ?_⟩
    · go_light
      obtain ⟨-, ⟨a0, a1, a2, a3⟩, ⟨b0, b1, b2, b3⟩⟩ := hq
      go_simp
      try with_reducible rfl
      done
    try simp only [Act.put, List.setIfInBounds_toArray, List.set_cons_zero, List.set_cons_succ]
  refine qCall (by kernel_rfl) ?_
  apply Exists.intro
  refine ⟨?_, ?_⟩
  · apply Exists.intro
    apply Exists.intro
    refine ⟨fun wq => ?_, fun wq hq => ?_⟩
    · go_light
      go_simp
      exact ⟨rfl, rfl⟩
    · exact (C2.out wq).mono fun e w'' ⟨he, hw⟩ => ⟨he, by rw [hw]; exact hq⟩
  try simp only [Act.put, List.setIfInBounds_toArray, List.set_cons_zero, List.set_cons_succ]
  iterate 4
    refine qTake (by kernel_rfl) ?_
    apply Exists.intro
    refine ⟨fun wq hq => ?_, ?_⟩
    · go_light
      obtain ⟨-, ⟨a0, a1, a2, a3⟩, ⟨b0, b1, b2, b3⟩⟩ := hq
      go_simp
      try with_reducible rfl
      done
    try simp only [Act.put, List.setIfInBounds_toArray, List.set_cons_zero, List.set_cons_succ]
  refine qCall (by kernel_rfl) ?_
  apply Exists.intro
  refine ⟨?_, ?_⟩
  · apply Exists.intro
    apply Exists.intro
    refine ⟨fun wq => ?_, fun wq hq => ?_⟩
    · go_light
      go_simp
      exact ⟨rfl, rfl⟩
    · exact (C3.out wq).mono fun e w'' ⟨he, hw⟩ => ⟨he, by rw [hw]; exact hq⟩
  try simp only [Act.put, List.setIfInBounds_toArray, List.set_cons_zero, List.set_cons_succ]
  refine qNil ?_
  intro w3 hC
  obtain ⟨q, hq⟩ := hC.at'
  have HQ : Hid (Gr w w3) := Lib.hid (by rw [hq]; exact Gr.drewN HG.out q)
  clear hC hq
  obtain ⟨w4, hw4⟩ : ∃ z, z = w3.alloc (.cells #[.int .i64 c1, .int .i64 c2, .int .i64 c3] 3) := ⟨_, rfl⟩
  have HOR := Lib.hid (or_any [c1, c2, c3] w3.heap.size w4 (by show 3 ≤ 1000; decide) (fun j hj => by
    have hb : w4.heap[w3.heap.size]? = some (.cells #[.int .i64 c1, .int .i64 c2, .int .i64 c3] 3 (0, 0)) := by rw [hw4]; exact heap_alloc _ _ _
    rw [cell_of_block hb]
    have hj5 : j < 3 := hj
    match j, hj5 with
    | 0, _ => rfl
    | 1, _ => rfl
    | 2, _ => rfl))
  have HG4 : Hid (Gr w w4) := Lib.hid (by rw [hw4]; exact HQ.out.alloc _)
  rw [hw4] at HOR HG4
  clear hw4
  go_wp2_with fail
  refine HOR.out.mono ?_
  rintro e w5 ⟨rfl, hw5⟩
  have HW5 := Lib.hid hw5
  clear hw5
  go_wp2_with fail
  go_ret
  exact ⟨by rw [HR.out]; rfl, by rw [HW5.out]; exact HG4.out⟩
def knownB (k : Int) : Bool := decide (1 ≤ k) && decide (k ≤ 8)
set_option maxRecDepth 100000 in
theorem known_any (k : Int) (w : World) : Calls Try.prog 18 #[.int .i64 k] w fun e w' => e = .returned (.bool (knownB k)) ∧ w' = w := by
  by_cases h1 : 1 ≤ k
  · by_cases h2 : k ≤ 8
    · have HE : Hid (knownB k = true) := Lib.hid (by unfold knownB; rw [decide_eq_true h1, decide_eq_true h2]; rfl)
      go_enter Try.func18, Try.ntmps18
      go_wp2_with fail
      go_ret
      exact ⟨by rw [HE.out]; rfl, rfl⟩
    · have HE : Hid (knownB k = false) := Lib.hid (by unfold knownB; rw [decide_eq_true h1, decide_eq_false h2]; rfl)
      go_enter Try.func18, Try.ntmps18
      go_wp2_with fail
      go_ret
      exact ⟨by rw [HE.out]; rfl, rfl⟩
  · have HE : Hid (knownB k = false) := Lib.hid (by unfold knownB; rw [decide_eq_false h1]; rfl)
    go_enter Try.func18, Try.ntmps18
    go_wp2_with fail
    go_ret
    exact ⟨by rw [HE.out]; rfl, rfl⟩
end Go.Proofs.Ytlihcjlonafohaa
/- Deeds of fold in memory; walks: counted, sees, clears, the closure of marked. -/
namespace Go.Proofs.Ytlihcjlonafohaa
open Go.RowKit Go.Joins
set_option linter.unusedSimpArgs false
set_option linter.unusedVariables false

/-- The cells of a deed: its transaction (whose list is the slice v), its operation, its tag. -/
abbrev decs (t : TX) (v : Value) (o : TO) (g : TG) : Array Value := #[.int .i64 t.origin, .int .u64 (t.seq : Int), .int .u64 (t.stamp : Int), .int .u64 (t.deps 0 : Int), .int .u64 (t.deps 1 : Int), .int .u64 (t.deps 2 : Int), .int .u64 (t.deps 3 : Int), .int .u64 (t.deps 4 : Int), .int .u64 (t.deps 5 : Int), .int .u64 (t.deps 6 : Int), .int .u64 (t.deps 7 : Int), v, .int .i64 o.kind, .string o.key, .string o.elem, .int .i64 o.n, .int .i64 g.o, .int .i64 g.i, .int .u64 (g.s : Int), .string g.e]
/-- A deed's box lies here. -/
def DBox (w : World) (P : Nat) (t : TX) (v : Value) (o : TO) (g : TG) : Prop := w.heap[P]? = some (.cells (decs t v o g) 62 (0, 0))
theorem DBox.gr {w w' : World} {P : Nat} {t : TX} {v : Value} {o : TO} {g : TG} (h : DBox w P t v o g) (gr : Gr w w') : DBox w' P t v o g := gr_obj gr h
theorem fdbox (w : World) (t : TX) (v : Value) (o : TO) (g : TG) : ∃ W, W = w.alloc (.cells (decs t v o g) 62) ∧ Gr w W ∧ DBox W w.heap.size t v o g :=
  ⟨_, rfl, (Gr.refl w).alloc _, heap_alloc _ _ _⟩
theorem DBox.tx {w : World} {P : Nat} {t : TX} {v : Value} {o : TO} {g : TG} (h : DBox w P t v o g) : XFix w P 0 t v := by
  have h : w.heap[P]? = _ := h
  refine ⟨?_, ?_, ?_, ?_, ?_, ?_, ?_, ?_, ?_, ?_, ?_, ?_⟩ <;> (rw [cell_of_block h]; rfl)
theorem DBox.op {w : World} {P : Nat} {t : TX} {v : Value} {o : TO} {g : TG} (h : DBox w P t v o g) : w.cell? ⟨P, 12, none⟩ = some (.int .i64 o.kind) ∧ w.cell? ⟨P, 13, none⟩ = some (.string o.key) ∧ w.cell? ⟨P, 14, none⟩ = some (.string o.elem) ∧ w.cell? ⟨P, 15, none⟩ = some (.int .i64 o.n) := by
  have h : w.heap[P]? = _ := h
  refine ⟨?_, ?_, ?_, ?_⟩ <;> (rw [cell_of_block h]; rfl)
theorem DBox.tg {w : World} {P : Nat} {t : TX} {v : Value} {o : TO} {g : TG} (h : DBox w P t v o g) : w.cell? ⟨P, 16, none⟩ = some (.int .i64 g.o) ∧ w.cell? ⟨P, 17, none⟩ = some (.int .i64 g.i) ∧ w.cell? ⟨P, 18, none⟩ = some (.int .u64 (g.s : Int)) ∧ w.cell? ⟨P, 19, none⟩ = some (.string g.e) := by
  have h : w.heap[P]? = _ := h
  refine ⟨?_, ?_, ?_, ?_⟩ <;> (rw [cell_of_block h]; rfl)
/-- What a deed makes of a number. -/
def cntZ (o : TO) (n : Int) : Int := if o.kind = 1 then wrap64 (n + o.n) else if o.kind = 2 then wrap64 (n - o.n) else n
set_option maxRecDepth 100000 in
set_option maxHeartbeats 2000000 in
theorem counted_any (t : TX) (v : Value) (o : TO) (g : TG) (n : Int) (w : World) : Calls Try.prog 34 #[.agg (decs t v o g), .int .i64 n] w fun e w' => e = .returned (.int .i64 (cntZ o n)) ∧ Gr w w' := by
  obtain ⟨W, hW, hg, hb⟩ := fdbox w t v o g
  have HG := Lib.hid hg
  obtain ⟨p0, p1, p2, p3⟩ := hb.op
  obtain ⟨k, hk⟩ : ∃ k, k = o.kind := ⟨_, rfl⟩
  obtain ⟨m, hm⟩ : ∃ k, k = o.n := ⟨_, rfl⟩
  rw [← hk] at p0
  rw [← hm] at p3
  by_cases h1 : k = 1
  · have HE : Hid (cntZ o n = wrap64 (n + m)) := Lib.hid (by unfold cntZ; rw [← hk, if_pos h1, hm])
    subst h1
    clear hg hb hk hm
    go_enter Try.func34, Try.ntmps34
    go_upto_region 1 with (fail)
    change Code.wp Try.prog _ _ _ (w.alloc (.cells (decs t v o g) 62))
    rw [← hW]
    clear hW
    go_wp2_with fail
    go_ret
    exact ⟨by rw [HE.out]; rfl, HG.out⟩
  by_cases h2 : k = 2
  · have HE : Hid (cntZ o n = wrap64 (n - m)) := Lib.hid (by unfold cntZ; rw [← hk, if_neg h1, if_pos h2, hm])
    subst h2
    clear hg hb hk hm h1
    go_enter Try.func34, Try.ntmps34
    go_upto_region 1 with (fail)
    change Code.wp Try.prog _ _ _ (w.alloc (.cells (decs t v o g) 62))
    rw [← hW]
    clear hW
    go_wp2_with fail
    go_ret
    exact ⟨by rw [HE.out]; rfl, HG.out⟩
  have HE : Hid (cntZ o n = n) := Lib.hid (by unfold cntZ; rw [← hk, if_neg h1, if_neg h2])
  have b1 : (k == 1) = false := beq_eq_false_iff_ne.2 h1
  have b2 : (k == 2) = false := beq_eq_false_iff_ne.2 h2
  clear hg hb hk hm
  go_enter Try.func34, Try.ntmps34
  go_upto_region 1 with (fail)
  change Code.wp Try.prog _ _ _ (w.alloc (.cells (decs t v o g) 62))
  rw [← hW]
  clear hW
  go_wp2_with fail
  go_ret
  exact ⟨by rw [HE.out]; rfl, HG.out⟩
/-- Does the deed of this transaction and tag see the tag x? -/
def seesG (t : TX) (g x : TG) : Bool := if x.o = g.o ∧ x.s = g.s then decide (x.i < g.i) else hasB t.deps x.o x.s
set_option maxRecDepth 100000 in
set_option maxHeartbeats 2000000 in
theorem seesG_any (t : TX) (v : Value) (o : TO) (g x : TG) (w : World) : Calls Try.prog 67 #[.agg (decs t v o g), .agg (tgv x)] w fun e w' => e = .returned (.bool (seesG t g x)) ∧ Gr w w' := by
  obtain ⟨W1, hW1, hg1, hb1⟩ := fdbox w t v o g
  obtain ⟨W, hW, hg2, hx⟩ := tgbox W1 x
  have hs : W1.heap.size = w.heap.size + 1 := by rw [hW1]; simp
  rw [hs] at hx
  have hb := hb1.gr hg2
  have HG := Lib.hid (hg1.trans hg2)
  rw [hW1] at hW
  obtain ⟨g0, g1, g2, g3⟩ := hb.tg
  obtain ⟨d0, d1, d2, d3, d4, d5, d6, d7, d8, d9, d10, d11⟩ := hb.tx
  obtain ⟨x0, x1, x2, x3⟩ := hx
  simp only [Nat.zero_add] at d0 d1 d2 d3 d4 d5 d6 d7 d8 d9 d10 d11 x0 x1 x2 x3
  have HH := Lib.hid (fun w1 => has_any t.deps x.o x.s w1)
  obtain ⟨go, hgo⟩ : ∃ a, a = g.o := ⟨_, rfl⟩
  obtain ⟨gs, hgs⟩ : ∃ a, a = g.s := ⟨_, rfl⟩
  obtain ⟨gi, hgi⟩ : ∃ a, a = g.i := ⟨_, rfl⟩
  obtain ⟨xo, hxo⟩ : ∃ a, a = x.o := ⟨_, rfl⟩
  obtain ⟨xs, hxs⟩ : ∃ a, a = x.s := ⟨_, rfl⟩
  obtain ⟨xi, hxi⟩ : ∃ a, a = x.i := ⟨_, rfl⟩
  rw [← hgo] at g0
  rw [← hgi] at g1
  rw [← hgs] at g2
  rw [← hxo] at x0 HH
  rw [← hxi] at x1
  rw [← hxs] at x2 HH
  have HS : Hid (seesG t g x = if xo = go ∧ xs = gs then decide (xi < gi) else hasB t.deps xo xs) := Lib.hid (by rw [hxo, hgo, hxs, hgs, hxi, hgi]; rfl)
  clear hg1 hg2 hb1 hb hs hW1 hgo hgs hgi hxo hxs hxi
  by_cases h1 : xo = go
  · by_cases h2 : xs = gs
    · have HE : Hid (seesG t g x = decide (xi < gi)) := Lib.hid (by rw [HS.out, if_pos ⟨h1, h2⟩])
      obtain ⟨r, hr⟩ : ∃ r, r = seesG t g x := ⟨_, rfl⟩
      rw [← hr] at HE ⊢
      subst h1
      subst h2
      clear hr
      by_cases h3 : xi < gi
      · have b3 : decide (xi < gi) = true := decide_eq_true h3
        have HE2 : Hid (r = true) := Lib.hid (by rw [HE.out, b3])
        go_enter Try.func67, Try.ntmps67
        go_upto_region 1 with (fail)
        change Code.wp Try.prog _ _ _ ((w.alloc (.cells (decs t v o g) 62)).alloc (.cells (tgv x) 36))
        rw [← hW]
        clear hW
        go_wp2_with fail
        go_ret
        exact ⟨by rw [HE2.out]; rfl, HG.out⟩
      · have b3 : decide (xi < gi) = false := decide_eq_false h3
        have HE2 : Hid (r = false) := Lib.hid (by rw [HE.out, b3])
        go_enter Try.func67, Try.ntmps67
        go_upto_region 1 with (fail)
        change Code.wp Try.prog _ _ _ ((w.alloc (.cells (decs t v o g) 62)).alloc (.cells (tgv x) 36))
        rw [← hW]
        clear hW
        go_wp2_with fail
        go_ret
        exact ⟨by rw [HE2.out]; rfl, HG.out⟩
    · have HE : Hid (seesG t g x = hasB t.deps xo xs) := Lib.hid (by rw [HS.out, if_neg fun c => h2 c.2])
      have b2 : ¬ (xs : Int) = (gs : Int) := by omega
      have b3 : ((xs : Int) == (gs : Int)) = false := beq_eq_false_iff_ne.2 b2
      subst h1
      rw [HE.out]
      go_enter Try.func67, Try.ntmps67
      go_upto_region 1 with (fail)
      change Code.wp Try.prog _ _ _ ((w.alloc (.cells (decs t v o g) 62)).alloc (.cells (tgv x) 36))
      rw [← hW]
      clear hW
      go_wp2_with fail
      refine (HH.out _).mono ?_
      rintro e w5 ⟨rfl, hw5⟩
      go_wp2_with fail
      go_ret
      exact ⟨rfl, HG.out.trans hw5⟩
  · have HE : Hid (seesG t g x = hasB t.deps xo xs) := Lib.hid (by rw [HS.out, if_neg fun c => h1 c.1])
    have b3 : (xo == go) = false := beq_eq_false_iff_ne.2 h1
    rw [HE.out]
    go_enter Try.func67, Try.ntmps67
    go_upto_region 1 with (fail)
    change Code.wp Try.prog _ _ _ ((w.alloc (.cells (decs t v o g) 62)).alloc (.cells (tgv x) 36))
    rw [← hW]
    clear hW
    go_wp2_with fail
    refine (HH.out _).mono ?_
    rintro e w5 ⟨rfl, hw5⟩
    go_wp2_with fail
    go_ret
    exact ⟨rfl, HG.out.trans hw5⟩
end Go.Proofs.Ytlihcjlonafohaa
