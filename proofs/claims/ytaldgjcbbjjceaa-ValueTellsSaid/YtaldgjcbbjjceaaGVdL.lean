/- What the document's rows of places answer is what the program's deeds make: elements and flags. -/
import Derived.Test.YtaldgjcbbjjceaaGVdH
import Derived.Test.YtaldgjcbbjjceaaG30
import Derived.Test.YtaldgjcbbjjceaaGVsN
namespace Go.Proofs.Ytaldgjcbbjjceaa
open Go.RowKit Go.Joins
set_option linter.unusedSimpArgs false
set_option linter.unusedVariables false

theorem toD_op (x : TX × Nat) : (toD x).op = opAt x.1 x.2 := rfl
/-- The deeds of a kind, as places. -/
def plZ (key : ByteArray) (l : LG) (v : Nat → Nat) (k : Int) : List (TX × Nat) := (dAll key l v 8).filter fun x => decide ((opAt x.1 x.2).kind = k)
theorem kindF_Z (key : ByteArray) (l : LG) (v : Nat → Nat) (k : Int) : kindF k ((dAll key l v 8).map toD) = (plZ key l v k).map toD := by
  unfold kindF plZ
  rw [List.filter_map]
  rfl
theorem plZ_mem {key : ByteArray} {l : LG} {v : Nat → Nat} {k : Int} {x : TX × Nat} : x ∈ plZ key l v k ↔ x ∈ plL key k (ordR l v) := by
  unfold plZ
  rw [List.mem_filter, dAll_mem, plL_mem, ordR_mem]
  unfold InCut isPl
  constructor
  · rintro ⟨⟨⟨i, c, hi, hc, h1⟩, o, ho, he⟩, hk⟩
    refine ⟨⟨i, c, hi, hc, h1⟩, o, ho, ?_⟩
    rw [opAt_some ho] at hk
    rw [he, hk]; rfl
  · rintro ⟨⟨i, c, hi, hc, h1⟩, o, ho, he⟩
    rw [Bool.and_eq_true] at he
    refine ⟨⟨⟨i, c, hi, hc, h1⟩, o, ho, he.1⟩, ?_⟩
    rw [opAt_some ho]
    exact he.2
/-- What a place of the cut is. -/
theorem plL_fact {key : ByteArray} {k : Int} {l : LG} {v : Nat → Nat} {x : TX × Nat} (hl : OkL l) (h : x ∈ plL key k (ordR l v)) :
    (∃ i c, i < 8 ∧ (l i)[c]? = some x.1 ∧ x.1.origin = (i : Int) ∧ x.1.seq = c + 1 ∧ x.1.deps i = c) ∧ x.2 < x.1.ops.length ∧ (opAt x.1 x.2).kind = k ∧ (opAt x.1 x.2).key = key := by
  obtain ⟨h1, o, ho, he⟩ := plL_mem.1 h
  obtain ⟨i, c, hi, -, hc⟩ := ordR_mem.1 h1
  obtain ⟨hok, h2, h3, -⟩ := hl.tx i c x.1 hi hc
  unfold isPl at he
  rw [Bool.and_eq_true] at he
  refine ⟨⟨i, c, hi, hc, h2, h3, ?_⟩, (List.getElem?_eq_some_iff.1 ho).1, ?_, ?_⟩
  · have := hok.1.2.2.2.2
    rw [h2, h3] at this
    simpa using this
  · rw [opAt_some ho]; exact of_decide_eq_true he.2
  · rw [opAt_some ho]; exact eqS_iff.1 he.1
theorem same_tx {key : ByteArray} {k k' : Int} {l : LG} {v : Nat → Nat} {x y : TX × Nat} (hl : OkL l) (hx : x ∈ plL key k (ordR l v)) (hy : y ∈ plL key k' (ordR l v)) (h1 : x.1.origin = y.1.origin) (h2 : x.1.seq = y.1.seq) : x.1 = y.1 := by
  obtain ⟨⟨i, c, hi, hc, ho, hs, -⟩, -⟩ := plL_fact hl hx
  obtain ⟨⟨i', c', hi', hc', ho', hs', -⟩, -⟩ := plL_fact hl hy
  have e1 : i = i' := by omega
  have e2 : c = c' := by omega
  subst e1 e2
  rw [hc] at hc'
  exact Option.some.inj hc'
/-- What the first j deeds saw. -/
theorem seenF_has {a : ByteArray} {o : Int} {n : Nat} (L : List DD) : ∀ j, j ≤ L.length → (hasB (seenF L j a) o n = true ↔ ∃ d ∈ L.take j, aboutT d.op = a ∧ hasB d.t.deps o n = true)
  | 0, _ => by
    simp only [List.take_zero, List.not_mem_nil, false_and, exists_false, iff_false]
    unfold hasB seenF
    simp
    omega
  | j + 1, hj => by
    have ih := seenF_has (a := a) (o := o) (n := n) L j (by omega)
    have hd : L[j]? = some L[j] := List.getElem?_eq_getElem (by omega)
    rw [seenF_at hd, List.take_add_one, hd]
    simp only []
    by_cases e : a = aboutT L[j].op
    · rw [if_pos e, ← e]
      have hj2 : hasB (jn (seenF L j a) L[j].t.deps) o n = true ↔ hasB (seenF L j a) o n = true ∨ hasB L[j].t.deps o n = true := by
        unfold hasB jn
        simp only [Bool.and_eq_true, decide_eq_true_eq]
        omega
      rw [hj2, ih]
      constructor
      · rintro (⟨d, h1, h2, h3⟩ | h)
        · exact ⟨d, List.mem_append_left _ h1, h2, h3⟩
        · exact ⟨L[j], List.mem_append_right _ (by simp), e.symm, h⟩
      · rintro ⟨d, h1, h2, h3⟩
        rcases List.mem_append.1 h1 with h1 | h1
        · exact .inl ⟨d, h1, h2, h3⟩
        · have : d = L[j] := by simpa using h1
          rw [this] at h3
          exact .inr h3
    · rw [if_neg e, ih]
      constructor
      · rintro ⟨d, h1, h2, h3⟩
        exact ⟨d, List.mem_append_left _ h1, h2, h3⟩
      · rintro ⟨d, h1, h2, h3⟩
        rcases List.mem_append.1 h1 with h1 | h1
        · exact ⟨d, h1, h2, h3⟩
        · have : d = L[j] := by simpa using h1
          rw [this] at h2
          exact absurd h2.symm e
/-- The program's question and the document's. -/
theorem uns_seen {key : ByteArray} {l : LG} {v : Nat → Nat} (hl : OkL l) {kd sk : Int} {x : TX × Nat} (hx : x ∈ plL key kd (ordR l v)) :
    unsD (seenF (kindF sk ((dAll key l v 8).map toD)) (kindF sk ((dAll key l v 8).map toD)).length) sk (toD x) = true ↔
      ∃ y ∈ plL key sk (ordR l v), aboutT (opAt y.1 y.2) = aboutT (opAt x.1 x.2) ∧ seenP x y = true := by
  obtain ⟨⟨i, c, hi, hc, ho, hs, hdep⟩, hxi, hxk, hxkey⟩ := plL_fact hl hx
  unfold unsD
  rw [Bool.or_eq_true, seenF_has _ _ (Nat.le_refl _), List.take_length, kindF_Z]
  have hdd : x.1.deps x.1.origin.toNat = c := by rw [ho]; simpa using hdep
  have hh : decide (x.1.seq ≤ x.1.deps x.1.origin.toNat) = false := decide_eq_false (by rw [hdd, hs]; omega)
  have self : hasB x.1.deps x.1.origin x.1.seq = false := by
    unfold hasB
    rw [hh, Bool.and_false]
  constructor
  · rintro (⟨d, h1, h2, h3⟩ | h)
    · obtain ⟨y, hy, rfl⟩ := List.mem_map.1 h1
      rw [plZ_mem] at hy
      refine ⟨y, hy, h2, ?_⟩
      unfold seenP
      by_cases hs2 : x.1.origin = y.1.origin ∧ x.1.seq = y.1.seq
      · have e := same_tx hl hx hy hs2.1 hs2.2
        have h3 : hasB y.1.deps x.1.origin x.1.seq = true := h3
        rw [← e, self] at h3
        cases h3
      · rw [if_neg hs2]
        exact h3
    · unfold withinD at h
      rw [List.any_eq_true] at h
      obtain ⟨p, hp, hse⟩ := h
      obtain ⟨m, hm⟩ := List.mem_iff_getElem?.1 hp
      have hm : x.1.ops[x.2 + 1 + m]? = some p := by rw [← hm, List.getElem?_drop]; rfl
      unfold seesB at hse
      simp only [Bool.and_eq_true, decide_eq_true_eq, eqS_iff] at hse
      refine ⟨(x.1, x.2 + 1 + m), plL_mem.2 ⟨(plL_mem.1 hx).1, p, hm, ?_⟩, ?_, ?_⟩
      · unfold isPl
        rw [hse.2.1]
        show (eqS (opAt x.1 x.2).key key && _) = true
        rw [hxkey, eqS_self, hse.1]
        simp
      · show aboutT (opAt x.1 (x.2 + 1 + m)) = _
        rw [opAt_some hm]
        exact hse.2.2
      · unfold seenP
        rw [if_pos ⟨rfl, rfl⟩]
        exact decide_eq_true (by show x.2 < x.2 + 1 + m; omega)
  · rintro ⟨y, hy, ha, hse⟩
    unfold seenP at hse
    by_cases hs2 : x.1.origin = y.1.origin ∧ x.1.seq = y.1.seq
    · rw [if_pos hs2] at hse
      have hlt := of_decide_eq_true hse
      have e := same_tx hl hx hy hs2.1 hs2.2
      obtain ⟨-, hyi, hyk, hykey⟩ := plL_fact hl hy
      refine .inr ?_
      unfold withinD
      rw [List.any_eq_true]
      have hyo : x.1.ops[y.2]? = some (opAt y.1 y.2) := by
        rw [e, List.getElem?_eq_getElem hyi, opAt_some (List.getElem?_eq_getElem hyi)]
      refine ⟨opAt y.1 y.2, List.mem_iff_getElem?.2 ⟨y.2 - (x.2 + 1), ?_⟩, ?_⟩
      · show (x.1.ops.drop (x.2 + 1))[y.2 - (x.2 + 1)]? = _
        rw [List.getElem?_drop, show x.2 + 1 + (y.2 - (x.2 + 1)) = y.2 by omega]
        exact hyo
      · unfold seesB
        rw [toD_op]
        simp only [Bool.and_eq_true, decide_eq_true_eq, eqS_iff]
        exact ⟨hyk, by rw [hykey, hxkey], ha⟩
    · rw [if_neg hs2] at hse
      exact .inl ⟨toD y, List.mem_map.2 ⟨y, plZ_mem.2 hy, rfl⟩, ha, hse⟩
theorem about_el {o : TO} (h : ¬ o.kind = 6) : aboutT o = o.elem := if_neg h
theorem uns_ans {key : ByteArray} {l : LG} {v : Nat → Nat} (hl : OkL l) {kd sk : Int} (h1 : ¬ kd = 6) (h2 : ¬ sk = 6) {x : TX × Nat} (hx : x ∈ plL key kd (ordR l v)) :
    unsD (seenF (kindF sk ((dAll key l v 8).map toD)) (kindF sk ((dAll key l v 8).map toD)).length) sk (toD x) = ansB x (plL key sk (ordR l v)) := by
  rw [Bool.eq_iff_iff, uns_seen hl hx]
  unfold ansB
  rw [List.any_eq_true]
  have hxk := (plL_fact hl hx).2.2.1
  constructor
  · rintro ⟨y, hy, ha, hs⟩
    have hyk := (plL_fact hl hy).2.2.1
    rw [about_el (o := opAt x.1 x.2) (by rw [hxk]; exact h1), about_el (o := opAt y.1 y.2) (by rw [hyk]; exact h2)] at ha
    exact ⟨y, hy, by rw [hs, Bool.and_true]; exact eqS_iff.2 ha⟩
  · rintro ⟨y, hy, hb⟩
    rw [Bool.and_eq_true] at hb
    have hyk := (plL_fact hl hy).2.2.1
    refine ⟨y, hy, ?_, hb.2⟩
    rw [about_el (o := opAt x.1 x.2) (by rw [hxk]; exact h1), about_el (o := opAt y.1 y.2) (by rw [hyk]; exact h2)]
    exact eqS_iff.1 hb.1
theorem uns_cov {key : ByteArray} {l : LG} {v : Nat → Nat} (hl : OkL l) {x : TX × Nat} (hx : x ∈ plL key 6 (ordR l v)) :
    unsD (seenF (kindF 6 ((dAll key l v 8).map toD)) (kindF 6 ((dAll key l v 8).map toD)).length) 6 (toD x) = covB x (plL key 6 (ordR l v)) := by
  rw [Bool.eq_iff_iff, uns_seen hl hx]
  unfold covB
  rw [List.any_eq_true]
  have hxk := (plL_fact hl hx).2.2.1
  constructor
  · rintro ⟨y, hy, -, hs⟩
    exact ⟨y, hy, hs⟩
  · rintro ⟨y, hy, hs⟩
    have hyk := (plL_fact hl hy).2.2.1
    refine ⟨y, hy, ?_, hs⟩
    unfold aboutT
    rw [if_pos hxk, if_pos hyk]
/-- The elements put in, at the end. -/
theorem foldT_all (P : TX × Nat → Bool) (L : List (TX × Nat)) : foldT P L L.length = riseT ((L.filter P).map elP) := by
  have h : ∀ j, j ≤ L.length → foldT P L j = riseT (((L.take j).filter P).map elP) := by
    intro j
    induction j with
    | zero => intro _; simp [foldT, riseT]
    | succ j ih =>
      intro hj
      have hx : L[j]? = some L[j] := List.getElem?_eq_getElem hj
      rw [List.take_add_one, hx, List.filter_append, List.map_append]
      cases hp : P L[j] with
      | true =>
        rw [foldT_yes hx hp, ih (by omega), intoT_ins, ← riseT_snoc]
        simp [hp]
      | false =>
        rw [foldT_no hx hp, ih (by omega)]
        simp [hp]
  rw [h _ (Nat.le_refl _), List.take_length]
theorem unsL_Z {key : ByteArray} {l : LG} {v : Nat → Nat} {kd sk : Int} {P : TX × Nat → Bool} (h : ∀ x ∈ plL key kd (ordR l v), unsD (seenF (kindF sk ((dAll key l v 8).map toD)) (kindF sk ((dAll key l v 8).map toD)).length) sk (toD x) = P x) {s : ByteArray} :
    s ∈ elemsD (unsL kd sk ((dAll key l v 8).map toD)) ↔ ∃ x ∈ plL key kd (ordR l v), P x = false ∧ elP x = s := by
  unfold elemsD unsL
  rw [List.mem_map]
  constructor
  · rintro ⟨d, hd, he⟩
    rw [List.mem_filter, kindF_Z] at hd
    obtain ⟨x, hx, rfl⟩ := List.mem_map.1 hd.1
    rw [plZ_mem] at hx
    refine ⟨x, hx, ?_, he⟩
    have := hd.2
    rw [h x hx] at this
    simpa using this
  · rintro ⟨x, hx, hp, he⟩
    refine ⟨toD x, List.mem_filter.2 ⟨?_, ?_⟩, he⟩
    · rw [kindF_Z]
      exact List.mem_map.2 ⟨x, plZ_mem.2 hx, rfl⟩
    · rw [h x hx, hp]; rfl
theorem rise_same {key : ByteArray} {l : LG} {v : Nat → Nat} {kd sk : Int} {P : TX × Nat → Bool} (h : ∀ x ∈ plL key kd (ordR l v), unsD (seenF (kindF sk ((dAll key l v 8).map toD)) (kindF sk ((dAll key l v 8).map toD)).length) sk (toD x) = P x) :
    riseT (elemsD (unsL kd sk ((dAll key l v 8).map toD))) = foldT (fun x => !P x) (plL key kd (ordR l v)) (plL key kd (ordR l v)).length := by
  rw [foldT_all]
  refine riseT_congr fun s => ?_
  rw [unsL_Z h, List.mem_map]
  constructor
  · rintro ⟨x, hx, hp, he⟩
    exact ⟨x, List.mem_filter.2 ⟨hx, by rw [hp]; rfl⟩, he⟩
  · rintro ⟨x, hx, he⟩
    rw [List.mem_filter] at hx
    exact ⟨x, hx.1, by simpa using hx.2, he⟩
theorem firm_same {key : ByteArray} {l : LG} {v : Nat → Nat} (hl : OkL l) :
    firmL ((dAll key l v 8).map toD) = foldT (fun x => firB (elP x) (plL key 4 (ordR l v)) (plL key 5 (ordR l v))) (plL key 4 (ordR l v)) (plL key 4 (ordR l v)).length := by
  rw [foldT_all]
  unfold firmL
  refine risingS_ext ((riseT_rising _).filter _) (riseT_rising _) fun s => ?_
  have hu : s ∈ riseT (elemsD (unsL 5 4 ((dAll key l v 8).map toD))) ↔ ∃ x ∈ plL key 5 (ordR l v), ansB x (plL key 4 (ordR l v)) = false ∧ elP x = s := by
    rw [mem_riseT]
    exact unsL_Z (P := fun x => ansB x (plL key 4 (ordR l v))) fun x hx => uns_ans hl (by decide) (by decide) hx
  have hk : s ∈ riseT (elemsD (kindF 4 ((dAll key l v 8).map toD))) ↔ ∃ x ∈ plL key 4 (ordR l v), elP x = s := by
    rw [mem_riseT, kindF_Z]
    unfold elemsD
    rw [List.map_map, List.mem_map]
    constructor
    · rintro ⟨x, hx, he⟩; exact ⟨x, plZ_mem.1 hx, he⟩
    · rintro ⟨x, hx, he⟩; exact ⟨x, plZ_mem.2 hx, he⟩
  have hf : firB s (plL key 4 (ordR l v)) (plL key 5 (ordR l v)) = true ↔ ¬ ∃ x ∈ plL key 5 (ordR l v), ansB x (plL key 4 (ordR l v)) = false ∧ elP x = s := by
    unfold firB
    rw [List.all_eq_true]
    constructor
    · rintro h ⟨x, hx, ha, he⟩
      have := h x hx
      rw [ha, he, eqS_self] at this
      cases this
    · intro h x hx
      cases ha : ansB x (plL key 4 (ordR l v)) with
      | true => simp
      | false =>
        have hne : ¬ elP x = s := fun e => h ⟨x, hx, ha, e⟩
        rw [eqS_ne hne]
        rfl
  rw [List.mem_filter, hk, mem_riseT, List.mem_map]
  have hm : (!memS (riseT (elemsD (unsL 5 4 ((dAll key l v 8).map toD)))) s) = true ↔ firB s (plL key 4 (ordR l v)) (plL key 5 (ordR l v)) = true := by
    rw [hf, ← hu, ← memS_iff]
    simp
  rw [hm]
  constructor
  · rintro ⟨⟨x, hx, he⟩, hb⟩
    exact ⟨x, List.mem_filter.2 ⟨hx, by rw [he]; exact hb⟩, he⟩
  · rintro ⟨x, hx, he⟩
    rw [List.mem_filter] at hx
    exact ⟨⟨x, hx.1, he⟩, by rw [← he]; exact hx.2⟩
theorem on_same {key : ByteArray} {l : LG} {v : Nat → Nat} (hl : OkL l) (start : Int) :
    onB start ((dAll key l v 8).map toD) = ((!decide (start = 0) && decide ((plL key 8 (ordR l v)).length = 0)) || (plL key 7 (ordR l v)).any (fun x => !ansB x (plL key 8 (ordR l v)))) := by
  have h8 : decide ((kindF 8 ((dAll key l v 8).map toD)).length = 0) = decide ((plL key 8 (ordR l v)).length = 0) := by
    have : (kindF 8 ((dAll key l v 8).map toD)).length = 0 ↔ (plL key 8 (ordR l v)).length = 0 := by
      rw [kindF_Z, List.length_map]
      constructor
      · intro h
        have h := List.length_eq_zero_iff.1 h
        refine List.length_eq_zero_iff.2 (List.eq_nil_iff_forall_not_mem.2 fun x hx => ?_)
        rw [← plZ_mem, h] at hx
        cases hx
      · intro h
        have h := List.length_eq_zero_iff.1 h
        refine List.length_eq_zero_iff.2 (List.eq_nil_iff_forall_not_mem.2 fun x hx => ?_)
        rw [plZ_mem, h] at hx
        cases hx
    simp only [this]
  have h7 : decide (0 < (unsL 7 8 ((dAll key l v 8).map toD)).length) = (plL key 7 (ordR l v)).any (fun x => !ansB x (plL key 8 (ordR l v))) := by
    rw [Bool.eq_iff_iff, decide_eq_true_eq, List.any_eq_true, List.length_pos_iff_exists_mem]
    constructor
    · rintro ⟨d, hd⟩
      unfold unsL at hd
      rw [List.mem_filter] at hd
      have h1 := hd.1
      rw [kindF_Z] at h1
      obtain ⟨x, hx, rfl⟩ := List.mem_map.1 h1
      rw [plZ_mem] at hx
      refine ⟨x, hx, ?_⟩
      rw [← uns_ans hl (by decide) (by decide) hx]
      exact hd.2
    · rintro ⟨x, hx, ha⟩
      refine ⟨toD x, ?_⟩
      unfold unsL
      rw [List.mem_filter]
      refine ⟨?_, ?_⟩
      · rw [kindF_Z]; exact List.mem_map.2 ⟨x, plZ_mem.2 hx, rfl⟩
      · rw [uns_ans hl (by decide) (by decide) hx]; exact ha
  unfold onB
  rw [h8, h7, Bool.or_comm]
  congr 2
  by_cases h : start = 0 <;> simp [h]
end Go.Proofs.Ytaldgjcbbjjceaa
