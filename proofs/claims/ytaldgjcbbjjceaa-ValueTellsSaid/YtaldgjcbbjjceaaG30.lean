/- Texts VsM, joined. -/
import Derived.Test.YtaldgjcbbjjceaaG28
import Derived.Test.YtaldgjcbbjjceaaG29
/- Plain mathematics of values: which operations there are in a cut, in the order of members and in the document's order; what elements a value has. -/
namespace Go.Proofs.Ytaldgjcbbjjceaa

/-- A transaction of the cut. -/
def InCut (l : LG) (v : Nat → Nat) (t : TX) : Prop := ∃ i k, i < 8 ∧ k < v i ∧ (l i)[k]? = some t
theorem dTx_mem {key : ByteArray} {t : TX} : ∀ {j : Nat} {x : TX × Nat}, x ∈ dTx key t j ↔ x.1 = t ∧ x.2 < j ∧ ∃ o, t.ops[x.2]? = some o ∧ eqS o.key key = true
  | 0, x => by
    constructor
    · intro h; cases h
    · intro h; exact absurd h.2.1 (Nat.not_lt_zero _)
  | j + 1, x => by
    unfold dTx
    rw [List.mem_append, dTx_mem]
    constructor
    · rintro (⟨h1, h2, h3⟩ | h)
      · exact ⟨h1, by omega, h3⟩
      · split at h
        · next o ho =>
          split at h
          · next hk =>
            obtain rfl := List.mem_singleton.1 h
            exact ⟨rfl, Nat.lt_succ_self _, o, ho, hk⟩
          · cases h
        · cases h
    · rintro ⟨h1, h2, o, h3, h4⟩
      rcases Nat.lt_or_ge x.2 j with c | c
      · exact .inl ⟨h1, c, o, h3, h4⟩
      · have e : x.2 = j := by omega
        refine .inr ?_
        rw [← e, h3]
        simp only [h4, if_true]
        exact List.mem_singleton.2 (by rw [← h1])
theorem dLog_mem {key : ByteArray} {l : LG} {i : Nat} : ∀ {d : Nat} {x : TX × Nat}, x ∈ dLog key l i d ↔ (∃ k, k < d ∧ (l i)[k]? = some x.1) ∧ ∃ o, x.1.ops[x.2]? = some o ∧ eqS o.key key = true
  | 0, x => by
    constructor
    · intro h; cases h
    · rintro ⟨⟨k, hk, _⟩, _⟩; exact absurd hk (Nat.not_lt_zero _)
  | d + 1, x => by
    unfold dLog
    rw [List.mem_append, dLog_mem]
    constructor
    · rintro (⟨⟨k, hk, h1⟩, h2⟩ | h)
      · exact ⟨⟨k, by omega, h1⟩, h2⟩
      · split at h
        · next t ht =>
          obtain ⟨h1, h2, h3⟩ := dTx_mem.1 h
          exact ⟨⟨d, Nat.lt_succ_self _, by rw [h1]; exact ht⟩, by rw [h1]; exact h3⟩
        · cases h
    · rintro ⟨⟨k, hk, h1⟩, o, h2, h3⟩
      rcases Nat.lt_or_ge k d with c | c
      · exact .inl ⟨⟨k, c, h1⟩, o, h2, h3⟩
      · have e : k = d := by omega
        refine .inr ?_
        rw [← e, h1]
        exact dTx_mem.2 ⟨rfl, (List.getElem?_eq_some_iff.1 h2).1, o, h2, h3⟩
theorem dAll_mem {key : ByteArray} {l : LG} {v : Nat → Nat} : ∀ {n : Nat} {x : TX × Nat}, x ∈ dAll key l v n ↔ (∃ i k, i < n ∧ k < v i ∧ (l i)[k]? = some x.1) ∧ ∃ o, x.1.ops[x.2]? = some o ∧ eqS o.key key = true
  | 0, x => by
    constructor
    · intro h; cases h
    · rintro ⟨⟨i, k, hi, _⟩, _⟩; exact absurd hi (Nat.not_lt_zero _)
  | n + 1, x => by
    unfold dAll
    rw [List.mem_append, dAll_mem, dLog_mem]
    constructor
    · rintro (⟨⟨i, k, hi, hk, h1⟩, h2⟩ | ⟨⟨k, hk, h1⟩, h2⟩)
      · exact ⟨⟨i, k, by omega, hk, h1⟩, h2⟩
      · exact ⟨⟨n, k, Nat.lt_succ_self _, hk, h1⟩, h2⟩
    · rintro ⟨⟨i, k, hi, hk, h1⟩, h2⟩
      rcases Nat.lt_or_ge i n with c | c
      · exact .inl ⟨⟨i, k, c, hk, h1⟩, h2⟩
      · have e : i = n := by omega
        subst e
        exact .inr ⟨⟨k, hk, h1⟩, h2⟩
theorem insT_mem {t x : TX} {L : List TX} : x ∈ insT t L ↔ x = t ∨ x ∈ L := by
  unfold insT
  have h : x ∈ L ↔ x ∈ L.take (plc t L L.length) ∨ x ∈ L.drop (plc t L L.length) := by
    rw [← List.mem_append, List.take_append_drop]
  rw [List.mem_append, List.mem_cons, h]
  constructor
  · rintro (a | a | a)
    · exact .inr (.inl a)
    · exact .inl a
    · exact .inr (.inr a)
  · rintro (a | a | a)
    · exact .inr (.inl a)
    · exact .inl a
    · exact .inr (.inr a)
theorem ordIn_mem {l : LG} {i : Nat} {acc : List TX} {x : TX} : ∀ {d : Nat}, x ∈ ordIn l i acc d ↔ x ∈ acc ∨ ∃ k, k < d ∧ (l i)[k]? = some x
  | 0 => by
    constructor
    · intro h; exact .inl h
    · rintro (h | ⟨k, hk, _⟩)
      · exact h
      · exact absurd hk (Nat.not_lt_zero _)
  | d + 1 => by
    cases h : (l i)[d]? with
    | none =>
      have e : ordIn l i acc (d + 1) = ordIn l i acc d := by
        show (match (l i)[d]? with | some t => _ | none => _) = _
        rw [h]
      rw [e, ordIn_mem]
      constructor
      · rintro (a | ⟨k, hk, a⟩)
        · exact .inl a
        · exact .inr ⟨k, by omega, a⟩
      · rintro (a | ⟨k, hk, a⟩)
        · exact .inl a
        · refine .inr ⟨k, ?_, a⟩
          rcases Nat.lt_or_ge k d with c | c
          · exact c
          · rw [show k = d by omega, h] at a
            cases a
    | some t =>
      rw [ordIn_at h, insT_mem, ordIn_mem]
      constructor
      · rintro (a | a | ⟨k, hk, a⟩)
        · exact .inr ⟨d, Nat.lt_succ_self _, by rw [h, a]⟩
        · exact .inl a
        · exact .inr ⟨k, by omega, a⟩
      · rintro (a | ⟨k, hk, a⟩)
        · exact .inr (.inl a)
        · rcases Nat.lt_or_ge k d with c | c
          · exact .inr (.inr ⟨k, c, a⟩)
          · rw [show k = d by omega, h] at a
            exact .inl (Option.some.inj a).symm
theorem ordTo_mem {l : LG} {v : Nat → Nat} {x : TX} : ∀ {n : Nat}, x ∈ ordTo l v n ↔ ∃ i k, i < n ∧ k < v i ∧ (l i)[k]? = some x
  | 0 => by
    constructor
    · intro h; cases h
    · rintro ⟨i, k, hi, _⟩; exact absurd hi (Nat.not_lt_zero _)
  | n + 1 => by
    show x ∈ ordIn l n (ordTo l v n) (v n) ↔ _
    rw [ordIn_mem, ordTo_mem]
    constructor
    · rintro (⟨i, k, hi, hk, a⟩ | ⟨k, hk, a⟩)
      · exact ⟨i, k, by omega, hk, a⟩
      · exact ⟨n, k, Nat.lt_succ_self _, hk, a⟩
    · rintro ⟨i, k, hi, hk, a⟩
      rcases Nat.lt_or_ge i n with c | c
      · exact .inl ⟨i, k, c, hk, a⟩
      · have e : i = n := by omega
        subst e
        exact .inr ⟨k, hk, a⟩
theorem ordR_mem {l : LG} {v : Nat → Nat} {x : TX} : x ∈ ordR l v ↔ InCut l v x := by
  unfold ordR InCut
  rw [ordTo_mem]
  constructor
  · rintro ⟨i, k, hi, hk, a⟩
    exact ⟨i, k, hi, by have : mt v (sizeV l) i = min (v i) (sizeV l i) := rfl; omega, a⟩
  · rintro ⟨i, k, hi, hk, a⟩
    have h1 := (List.getElem?_eq_some_iff.1 a).1
    have h2 : mt v (sizeV l) i = min (v i) ((l i).length) := rfl
    exact ⟨i, k, hi, by omega, a⟩
theorem opAt_some {t : TX} {j : Nat} {o : TO} (h : t.ops[j]? = some o) : opAt t j = o := by
  unfold opAt
  rw [List.getD_eq_getElem?_getD, h]
  rfl
/-- Elements come from deeds that add or write. -/
theorem valR_elem {kind start : Int} {D : List DD} {s : ByteArray} (h : s ∈ (valR kind start D).e) : ∃ d ∈ D, d.op.elem = s ∧ (d.op.kind = 4 ∨ d.op.kind = 6) := by
  have hk : ∀ {k : Int} {d : DD}, d ∈ kindF k D → d ∈ D ∧ d.op.kind = k := fun {k d} hd => ⟨kindF_mem hd, by simpa using (List.mem_filter.1 hd).2⟩
  have hu : ∀ {a b : Int}, s ∈ elemsD (unsL a b D) → ∃ d ∈ D, d.op.elem = s ∧ d.op.kind = a := fun {a b} hs => by
    obtain ⟨d, hd, e⟩ := List.mem_map.1 hs
    obtain ⟨h1, h2⟩ := hk (List.mem_filter.1 hd).1
    exact ⟨d, h1, e, h2⟩
  unfold valR at h
  split at h
  · cases h
  · split at h
    · obtain ⟨d, h1, h2, h3⟩ := hu (mem_riseT.1 h)
      exact ⟨d, h1, h2, .inl h3⟩
    · split at h
      · have h : s ∈ firmL D := h
        obtain ⟨d, hd, e⟩ := List.mem_map.1 (mem_riseT.1 (List.mem_filter.1 h).1)
        obtain ⟨h1, h2⟩ := hk hd
        exact ⟨d, h1, e, .inl h2⟩
      · split at h
        · have h : s ∈ lastL D := h
          obtain ⟨d, hd, e⟩ := List.mem_map.1 h
          obtain ⟨h1, h2⟩ := hk (topD_mem (by simpa using hd))
          exact ⟨d, h1, e, .inr h2⟩
        · split at h
          · obtain ⟨d, h1, h2, h3⟩ := hu (mem_riseT.1 h)
            exact ⟨d, h1, h2, .inr h3⟩
          · cases h
theorem lastL_len (D : List DD) : (lastL D).length ≤ 1 := by
  unfold lastL
  cases topD (kindF 6 D) <;> simp [elemsD]
theorem valR_rising (kind start : Int) (D : List DD) : RisingS (valR kind start D).e := by
  unfold valR
  split
  · exact risingS_nil
  · split
    · exact riseT_rising _
    · split
      · exact (riseT_rising _).filter _
      · split
        · have h := lastL_len D
          show RisingS (lastL D)
          match lastL D, h with
          | [], _ => exact risingS_nil
          | [a], _ => exact List.pairwise_singleton _ _
        · split
          · exact riseT_rising _
          · exact risingS_nil
theorem valV_rising (kind start : Int) (l : LG) (v : Nat → Nat) (key : ByteArray) : RisingS (valV kind start l v key).e := by
  unfold valV
  split
  · exact valR_rising _ _ _
  · exact risingS_nil
theorem valV_elem {kind start : Int} {l : LG} {v : Nat → Nat} {key s : ByteArray} (h : s ∈ (valV kind start l v key).e) : ∃ t ∈ ordR l v, ∃ o ∈ t.ops, eqS o.key key = true ∧ o.elem = s ∧ (o.kind = 4 ∨ o.kind = 6) := by
  unfold valV at h
  split at h
  · obtain ⟨d, hd, h1, h2⟩ := valR_elem h
    obtain ⟨x, hx, rfl⟩ := List.mem_map.1 hd
    obtain ⟨⟨i, k, hi, hk, h3⟩, o, h4, h5⟩ := dAll_mem.1 hx
    have e : (toD x).op = o := opAt_some h4
    rw [e] at h1 h2
    exact ⟨x.1, ordR_mem.2 ⟨i, k, hi, hk, h3⟩, o, List.mem_of_getElem? h4, h5, h1, h2⟩
  · cases h
theorem valV_none {kind start : Int} {l : LG} {v : Nat → Nat} {key : ByteArray} (h : ¬ valE kind l v = 0) : valV kind start l v key = ⟨0, [], false⟩ := if_neg h
theorem valE_ok {kind : Int} {l : LG} {v : Nat → Nat} (h : valE kind l v = 0) : (1 ≤ kind ∧ kind ≤ 8) ∧ OkL l ∧ closedP l v := by
  unfold valE at h
  split at h
  · cases h
  · split at h
    · next hk hc =>
      split at h
      · next hcl => exact ⟨by omega, okL_iff.1 hc, closedB_iff.1 hcl⟩
      · cases h
    · next hk hc => exact absurd h hc
/-- Is there such an operation among the first k transactions, and the first j operations of the next one? -/
def fndO (key s : ByteArray) (o : TO) : Bool := eqS o.key key && (eqS o.elem s && (decide (o.kind = 4) || decide (o.kind = 6)))
def fndB (key s : ByteArray) (L : List TX) (k j : Nat) : Bool := (L.take k).any (fun t => t.ops.any (fndO key s)) || (((L[k]?.map (·.ops)).getD []).take j).any (fndO key s)
theorem fndB_zero (key s : ByteArray) (L : List TX) : fndB key s L 0 0 = false := rfl
theorem fndB_op {key s : ByteArray} {L : List TX} {k j : Nat} {t : TX} {o : TO} (hk : L[k]? = some t) (hj : t.ops[j]? = some o) : fndB key s L k (j + 1) = (fndB key s L k j || fndO key s o) := by
  unfold fndB
  rw [hk]
  simp only [Option.map_some, Option.getD_some]
  rw [List.take_add_one, hj, List.any_append, Bool.or_assoc]
  simp
theorem fndB_tx {key s : ByteArray} {L : List TX} {k : Nat} {t : TX} (hk : L[k]? = some t) : fndB key s L k t.ops.length = fndB key s L (k + 1) 0 := by
  unfold fndB
  rw [hk]
  simp only [Option.map_some, Option.getD_some]
  rw [List.take_length, List.take_add_one, hk, List.any_append]
  simp
theorem fndB_all {key s : ByteArray} {L : List TX} (h : ∃ t ∈ L, ∃ o ∈ t.ops, eqS o.key key = true ∧ o.elem = s ∧ (o.kind = 4 ∨ o.kind = 6)) : fndB key s L L.length 0 = true := by
  unfold fndB
  rw [List.take_length]
  obtain ⟨t, ht, o, ho, h1, h2, h3⟩ := h
  have : L.any (fun t => t.ops.any (fndO key s)) = true := List.any_eq_true.2 ⟨t, ht, List.any_eq_true.2 ⟨o, ho, by
    unfold fndO
    rw [h1, h2, eqS_self]
    rcases h3 with h3 | h3 <;> simp [h3]⟩⟩
  rw [this]
  rfl
end Go.Proofs.Ytaldgjcbbjjceaa
