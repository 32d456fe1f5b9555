/- Mathematics of what operations owe: the program's way of asking and the document's are one. Own maps from strings to any values. -/
import Derived.Test.YtnjmgknicffcbaaGreatDoorZr32
import Derived.Test.YtnjmgknicffcbaaGreatDoorZr04
import Derived.Test.YtnjmgknicffcbaaGreatDoorZr12
import Derived.Test.YtnjmgknicffcbaaGreatDoorZr07
import Derived.Test.YtnjmgknicffcbaaGreatDoorZr23
import Derived.Maps.OwnSet
namespace Go.Proofs.YtnjmgknicffcbaaGreatDoor
open Go.RowKit
set_option linter.unusedSimpArgs false
set_option linter.unusedVariables false

/-- Does an operation of a kind fit a key of a kind? -/
def fitsB (k op : Int) : Bool :=
  if k = 1 then decide (op = 1) || decide (op = 2) else if k = 2 then (decide (op = 1) || decide (op = 2)) || decide (op = 3)
  else if k = 3 ∨ k = 4 ∨ k = 8 then decide (op = 4) || decide (op = 5) else if k = 5 ∨ k = 6 then decide (op = 6) else if k = 7 then decide (op = 7) || decide (op = 8) else false
/-- The first operation without a rule, or that doesn't fit. -/
def scanE (L : List RU) : List TO → Int
  | [] => 0
  | o :: t => if (ruleR L o.key).k = 0 then 140 else if fitsB (ruleR L o.key).k o.kind = false then 100 else scanE L t
noncomputable def ownB (m : Int) (e : ByteArray) : Bool := match PV.wholeL e.data.toList with
  | some n => decide (0 ≤ n) && decide (n.tmod 8 = m)
  | none => false
def revO (o : TO) : Option TO := if o.kind = 4 then some ⟨5, o.key, o.elem, 0⟩ else if o.kind = 8 then some ⟨7, o.key, ⟨#[]⟩, 0⟩ else none
def hasO (ops : List TO) (y : TO) : Bool := ops.any fun x => eqTO y x
def debtO (r : RU) (o : TO) : Option TO :=
  if r.k = 9 ∧ o.kind = 4 ∧ o.key = r.key then some ⟨4, r.other, o.elem, 0⟩ else if r.k = 9 ∧ o.kind = 5 ∧ o.key = r.other then some ⟨5, r.key, o.elem, 0⟩
  else if r.k = 10 ∧ o.kind = 8 ∧ o.key = r.key then some ⟨7, r.other, ⟨#[]⟩, 0⟩ else if r.k = 10 ∧ o.kind = 8 ∧ o.key = r.other then some ⟨7, r.key, ⟨#[]⟩, 0⟩ else none
def owesB (ops : List TO) : Option TO → Bool
  | some y => hasO ops y
  | none => true
def opposeB (ops : List TO) : Option TO → Bool
  | some y => hasO ops y
  | none => false
noncomputable def badId (L : List RU) (m : Int) (o : TO) : Bool := decide (o.kind = 4) && decide ((ruleR L o.key).k = 8) && !ownB m o.elem
noncomputable def paidB (L : List RU) (m : Int) (ops : List TO) (o : TO) : Bool := !badId L m o && !opposeB ops (revO o) && L.all fun r => owesB ops (debtO r o)
def okOpsB (m : Int) (ops : List TO) : Bool := decide (0 ≤ m ∧ m < 8 ∧ 1 ≤ ops.length ∧ ops.length ≤ 8) && ops.all fun o => opB o m
noncomputable def formC (L : List RU) (m : Int) (ops : List TO) : Int :=
  if checkC L ≠ 0 then checkC L else if okOpsB m ops = false then 80 else if scanE L ops ≠ 0 then scanE L ops else if ops.all (paidB L m ops) = true then 0 else 141
/-- The document's way. -/
def isO (kind : Int) (key elem : ByteArray) (x : TO) : Bool := decide (x.kind = kind) && eqS x.key key && eqS x.elem elem
def holdsO (ops : List TO) (kind : Int) (key elem : ByteArray) : Bool := ops.any (isO kind key elem)
def owedB (ops : List TO) (o : TO) (r : RU) : Bool :=
  if r.k = 9 ∧ o.kind = 4 ∧ o.key = r.key then holdsO ops 4 r.other o.elem else if r.k = 9 ∧ o.kind = 5 ∧ o.key = r.other then holdsO ops 5 r.key o.elem
  else if r.k = 10 ∧ o.kind = 8 ∧ o.key = r.key then holdsO ops 7 r.other ⟨#[]⟩ else if r.k = 10 ∧ o.kind = 8 ∧ o.key = r.other then holdsO ops 7 r.key ⟨#[]⟩ else true
def crossB (ops : List TO) (o : TO) : Bool := (decide (o.kind = 4) && holdsO ops 5 o.key o.elem) || (decide (o.kind = 7) && holdsO ops 8 o.key ⟨#[]⟩)
noncomputable def badIdD (L : List RU) (m : Int) (o : TO) : Bool := (decide ((ruleR L o.key).k = 8) && !ownB m o.elem) && decide (o.kind = 4)
noncomputable def goodD (L : List RU) (m : Int) (ops : List TO) (o : TO) : Bool := !crossB ops o && !badIdD L m o && L.all fun r => owedB ops o r
noncomputable def formD (L : List RU) (m : Int) (ops : List TO) : Int :=
  if checkD L ≠ 0 then checkD L else if okOpsB m ops = false then 80 else if scanE L ops ≠ 0 then scanE L ops else if ops.all (goodD L m ops) = true then 0 else 141

theorem eqTO_dec {x y : TO} : eqTO x y = true ↔ x.kind = y.kind ∧ x.key = y.key ∧ x.elem = y.elem ∧ x.n = y.n := by
  unfold eqTO
  rw [Bool.and_eq_true, Bool.and_eq_true, Bool.and_eq_true, eqS_iff, eqS_iff, beq_iff_eq, beq_iff_eq]
theorem isO_dec {kind : Int} {key elem : ByteArray} {x : TO} : isO kind key elem x = true ↔ x.kind = kind ∧ x.key = key ∧ x.elem = elem := by
  unfold isO
  rw [Bool.and_eq_true, Bool.and_eq_true, decide_eq_true_eq, eqS_iff, eqS_iff]
  exact ⟨fun h => ⟨h.1.1, h.1.2, h.2⟩, fun h => ⟨⟨h.1, h.2.1⟩, h.2.2⟩⟩
theorem okOp_of {m : Int} {ops : List TO} (h : okOpsB m ops = true) : ∀ o ∈ ops, okOp o m := by
  unfold okOpsB at h
  rw [Bool.and_eq_true, List.all_eq_true] at h
  exact fun o ho => of_decide_eq_true (h.2 o ho)
theorem okOp_n {o : TO} {m : Int} (h : okOp o m) (hk : o.kind = 4 ∨ o.kind = 5 ∨ o.kind = 7 ∨ o.kind = 8) : o.n = 0 := by
  obtain ⟨_, _, h3⟩ := h
  rcases h3 with ⟨h, _⟩ | ⟨h, _⟩ | ⟨_, h⟩ | ⟨_, h, _⟩
  · omega
  · omega
  · exact h
  · exact h
theorem okOp_e {o : TO} {m : Int} (h : okOp o m) (hk : o.kind = 7 ∨ o.kind = 8) : o.elem = ⟨#[]⟩ := by
  obtain ⟨_, _, h3⟩ := h
  rcases h3 with ⟨h, _⟩ | ⟨h, _⟩ | ⟨h, _⟩ | ⟨_, _, h⟩
  · omega
  · omega
  · omega
  · cases ho : o.elem with
    | mk d =>
      rw [ho] at h
      exact congrArg ByteArray.mk (Array.eq_empty_of_size_eq_zero h)
theorem has_holds {m : Int} {ops : List TO} (h : ∀ o ∈ ops, okOp o m) {y : TO} (hk : y.kind = 4 ∨ y.kind = 5 ∨ y.kind = 7 ∨ y.kind = 8) (hn : y.n = 0) : hasO ops y = holdsO ops y.kind y.key y.elem := by
  unfold hasO holdsO
  rw [Bool.eq_iff_iff, List.any_eq_true, List.any_eq_true]
  constructor
  · rintro ⟨x, hx, e⟩
    obtain ⟨a, b, c, _⟩ := eqTO_dec.1 e
    exact ⟨x, hx, isO_dec.2 ⟨a.symm, b.symm, c.symm⟩⟩
  · rintro ⟨x, hx, e⟩
    obtain ⟨a, b, c⟩ := isO_dec.1 e
    exact ⟨x, hx, eqTO_dec.2 ⟨a.symm, b.symm, c.symm, by rw [hn, okOp_n (h x hx) (by rw [a]; exact hk)]⟩⟩
theorem owes_owed {m : Int} {ops : List TO} (h : ∀ o ∈ ops, okOp o m) (o : TO) (r : RU) : owesB ops (debtO r o) = owedB ops o r := by
  unfold debtO owedB
  split
  · exact has_holds h (.inl rfl) rfl
  · split
    · exact has_holds h (.inr (.inl rfl)) rfl
    · split
      · exact has_holds h (.inr (.inr (.inl rfl))) rfl
      · split
        · exact has_holds h (.inr (.inr (.inl rfl))) rfl
        · rfl
theorem bad_bad (L : List RU) (m : Int) (o : TO) : badId L m o = badIdD L m o := by
  unfold badId badIdD
  cases decide (o.kind = 4) <;> simp
/-- The two ways are one. -/
theorem paid_good {L : List RU} {m : Int} {ops : List TO} (h : ∀ o ∈ ops, okOp o m) : ops.all (paidB L m ops) = ops.all (goodD L m ops) := by
  rw [Bool.eq_iff_iff, List.all_eq_true, List.all_eq_true]
  have split1 : ∀ o, paidB L m ops o = true ↔ badId L m o = false ∧ opposeB ops (revO o) = false ∧ (L.all fun r => owesB ops (debtO r o)) = true := fun o => by
    unfold paidB; rw [Bool.and_eq_true, Bool.and_eq_true, Bool.not_eq_true', Bool.not_eq_true', and_assoc]
  have split2 : ∀ o, goodD L m ops o = true ↔ crossB ops o = false ∧ badIdD L m o = false ∧ (L.all fun r => owedB ops o r) = true := fun o => by
    unfold goodD; rw [Bool.and_eq_true, Bool.and_eq_true, Bool.not_eq_true', Bool.not_eq_true', and_assoc]
  have same3 : ∀ o, (L.all fun r => owesB ops (debtO r o)) = (L.all fun r => owedB ops o r) := fun o => by
    congr 1; funext r; exact owes_owed h o r
  have rev4 : ∀ o : TO, o.kind = 4 → opposeB ops (revO o) = holdsO ops 5 o.key o.elem := fun o ho => by
    unfold revO; rw [if_pos ho]; exact has_holds h (y := ⟨5, o.key, o.elem, 0⟩) (.inr (.inl rfl)) rfl
  have rev8 : ∀ o : TO, o.kind = 8 → opposeB ops (revO o) = holdsO ops 7 o.key ⟨#[]⟩ := fun o ho => by
    unfold revO; rw [if_neg (by omega), if_pos ho]; exact has_holds h (y := ⟨7, o.key, ⟨#[]⟩, 0⟩) (.inr (.inr (.inl rfl))) rfl
  have revx : ∀ o : TO, o.kind ≠ 4 → o.kind ≠ 8 → opposeB ops (revO o) = false := fun o h4 h8 => by
    unfold revO; rw [if_neg h4, if_neg h8]; rfl
  constructor
  · intro hp o ho
    obtain ⟨a, b, c⟩ := (split1 o).1 (hp o ho)
    refine (split2 o).2 ⟨?_, by rw [← bad_bad]; exact a, by rw [← same3]; exact c⟩
    unfold crossB
    by_cases k4 : o.kind = 4
    · rw [rev4 o k4] at b
      rw [b, decide_eq_false (p := o.kind = 7) (by omega), Bool.and_false, Bool.false_and]; rfl
    · rw [decide_eq_false k4, Bool.false_and, Bool.false_or]
      by_cases k7 : o.kind = 7
      · cases hx : holdsO ops 8 o.key ⟨#[]⟩ with
        | false => rw [Bool.and_false]
        | true =>
          exfalso
          obtain ⟨x, hxm, hxo⟩ := List.any_eq_true.1 hx
          obtain ⟨e1, e2, e3⟩ := isO_dec.1 hxo
          have := ((split1 x).1 (hp x hxm)).2.1
          rw [rev8 x e1] at this
          have ht : holdsO ops 7 x.key ⟨#[]⟩ = true := List.any_eq_true.2 ⟨o, ho, isO_dec.2 ⟨k7, e2.symm, okOp_e (h o ho) (.inl k7)⟩⟩
          rw [ht] at this
          cases this
      · rw [decide_eq_false k7, Bool.false_and]
  · intro hp o ho
    obtain ⟨a, b, c⟩ := (split2 o).1 (hp o ho)
    refine (split1 o).2 ⟨by rw [bad_bad]; exact b, ?_, by rw [same3]; exact c⟩
    unfold crossB at a
    rw [Bool.or_eq_false_iff] at a
    by_cases k4 : o.kind = 4
    · rw [rev4 o k4]
      have := a.1
      rw [decide_eq_true k4, Bool.true_and] at this
      exact this
    · by_cases k8 : o.kind = 8
      · rw [rev8 o k8]
        cases hx : holdsO ops 7 o.key ⟨#[]⟩ with
        | false => rfl
        | true =>
          exfalso
          obtain ⟨x, hxm, hxo⟩ := List.any_eq_true.1 hx
          obtain ⟨e1, e2, e3⟩ := isO_dec.1 hxo
          have h2 := ((split2 x).1 (hp x hxm)).1
          unfold crossB at h2
          rw [Bool.or_eq_false_iff, decide_eq_true e1, Bool.true_and] at h2
          have ht : holdsO ops 8 x.key ⟨#[]⟩ = true := List.any_eq_true.2 ⟨o, ho, isO_dec.2 ⟨k8, e2.symm, okOp_e (h o ho) (.inr k8)⟩⟩
          rw [ht] at h2
          exact Bool.noConfusion h2.2
      · exact revx o k4 k8
theorem nil_iffR {s : ByteArray} : s.toList.isEmpty = true ↔ s = ⟨#[]⟩ := by
  rw [ByteArray.toList_eq, List.isEmpty_iff]
  constructor
  · intro h
    cases s with
    | mk d => exact congrArg ByteArray.mk (Array.toList_eq_nil_iff.1 h)
  · intro h; rw [h]
theorem one_iff {L : List RU} {i : Nat} {r : RU} : oneB L i r = true ↔ keyS r.key = true ∧ (inAB r.min && inAB r.start) = true ∧
    ((r.k = 9 ∧ r.min = 0 ∧ r.start = 0 ∧ joinsB L r 3 = true) ∨ (r.k = 10 ∧ r.min = 0 ∧ r.start = 0 ∧ joinsB L r 7 = true ∧ ((ruleR L r.key).start ≠ 0 ∨ (ruleR L r.other).start ≠ 0)) ∨
      ((1 ≤ r.k ∧ r.k ≤ 8) ∧ r.other.toList.isEmpty = true ∧ fInt L r.key = (i : Int) ∧ (r.min = 0 ∨ r.k = 2) ∧ (r.start = 0 ∨ r.k = 1 ∨ r.k = 2 ∨ r.k = 7) ∧ beginsB r = true)) := by
  unfold oneB beginsB knB
  rw [pair_joins (by decide), pair_joins (by decide)]
  by_cases h9 : r.k = 9
  · rw [if_pos h9]
    simp only [Bool.and_eq_true, decide_eq_true_eq]
    constructor
    · rintro ⟨⟨a, b⟩, ⟨c, d⟩, e⟩; exact ⟨a, b, .inl ⟨h9, c, d, e⟩⟩
    · rintro ⟨a, b, ⟨_, c, d, e⟩ | ⟨h, _⟩ | ⟨h, _⟩⟩
      · exact ⟨⟨a, b⟩, ⟨c, d⟩, e⟩
      · omega
      · omega
  rw [if_neg h9]
  by_cases h10 : r.k = 10
  · rw [if_pos h10]
    simp only [Bool.and_eq_true, Bool.or_eq_true, decide_eq_true_eq]
    constructor
    · rintro ⟨⟨a, b⟩, ⟨⟨c, d⟩, e⟩, f⟩; exact ⟨a, b, .inr (.inl ⟨h10, c, d, e, f⟩)⟩
    · rintro ⟨a, b, ⟨h, _⟩ | ⟨_, c, d, e, f⟩ | ⟨h, _⟩⟩
      · omega
      · exact ⟨⟨a, b⟩, ⟨⟨c, d⟩, e⟩, f⟩
      · omega
  rw [if_neg h10]
  simp only [Bool.and_eq_true, decide_eq_true_eq]
  constructor
  · rintro ⟨⟨a, b⟩, ⟨⟨⟨c1, c2⟩, d⟩, e⟩, f⟩
    refine ⟨a, b, .inr (.inr ⟨⟨c1, c2⟩, d, e, ?_⟩)⟩
    by_cases k1 : r.k = 1
    · rw [if_pos k1] at f
      exact ⟨.inl (of_decide_eq_true f), .inr (.inl k1), by rw [if_neg (by omega), if_neg (by omega)]⟩
    by_cases k2 : r.k = 2
    · rw [if_neg k1, if_pos k2] at f
      exact ⟨.inr k2, .inr (.inr (.inl k2)), by rw [if_pos k2]; exact f⟩
    by_cases k7 : r.k = 7
    · rw [if_neg k1, if_neg k2, if_pos k7, Bool.and_eq_true, decide_eq_true_eq] at f
      exact ⟨.inl f.1, .inr (.inr (.inr k7)), by rw [if_neg k2, if_pos k7]; exact f.2⟩
    rw [if_neg k1, if_neg k2, if_neg k7, Bool.and_eq_true, decide_eq_true_eq, decide_eq_true_eq] at f
    exact ⟨.inl f.1, .inl f.2, by rw [if_neg k2, if_neg k7]⟩
  · rintro ⟨a, b, ⟨h, _⟩ | ⟨h, _⟩ | ⟨⟨c1, c2⟩, d, e, f1, f2, f3⟩⟩
    · exact absurd h h9
    · exact absurd h h10
    refine ⟨⟨a, b⟩, ⟨⟨⟨c1, c2⟩, d⟩, e⟩, ?_⟩
    by_cases k1 : r.k = 1
    · rw [if_pos k1]
      exact decide_eq_true (by omega)
    by_cases k2 : r.k = 2
    · rw [if_neg k1, if_pos k2]
      rw [if_pos k2] at f3
      exact f3
    by_cases k7 : r.k = 7
    · rw [if_neg k1, if_neg k2, if_pos k7, Bool.and_eq_true, decide_eq_true_eq]
      rw [if_neg k2, if_pos k7] at f3
      exact ⟨by omega, f3⟩
    rw [if_neg k1, if_neg k2, if_neg k7, Bool.and_eq_true, decide_eq_true_eq, decide_eq_true_eq]
    exact ⟨by omega, by omega⟩
theorem may_iff {L : List RU} {i : Nat} {r : RU} : mayB L i r = true ↔ keyS r.key = true ∧ (inAB r.min && inAB r.start) = true ∧
    ((r.k = 9 ∧ r.min = 0 ∧ r.start = 0 ∧ joinsB L r 3 = true) ∨ (r.k = 10 ∧ r.min = 0 ∧ r.start = 0 ∧ joinsB L r 7 = true ∧ ((ruleR L r.key).start = 1 ∨ (ruleR L r.other).start = 1)) ∨
      ((1 ≤ r.k ∧ r.k ≤ 8) ∧ r.other.toList.isEmpty = true ∧ fInt L r.key = (i : Int) ∧ (r.min = 0 ∨ r.k = 2) ∧ (r.start = 0 ∨ r.k = 1 ∨ r.k = 2 ∨ r.k = 7) ∧ beginsB r = true)) := by
  unfold mayB
  rw [Bool.and_eq_true, Bool.and_eq_true, Bool.and_eq_true, named_iff]
  by_cases h9 : r.k = 9
  · rw [if_pos h9]
    constructor
    · rintro ⟨⟨⟨⟨a, b, c, d⟩, e⟩, f⟩, g⟩; exact ⟨e, f, .inl ⟨h9, by omega, by omega, g⟩⟩
    · rintro ⟨a, b, ⟨_, c, d, e⟩ | ⟨h, _⟩ | ⟨h, _⟩⟩
      · exact ⟨⟨⟨⟨by omega, .inr (.inl h9), .inl c, .inl d⟩, a⟩, b⟩, e⟩
      · omega
      · omega
  rw [if_neg h9]
  by_cases h10 : r.k = 10
  · rw [if_pos h10]
    simp only [Bool.and_eq_true, Bool.or_eq_true, decide_eq_true_eq]
    constructor
    · rintro ⟨⟨⟨⟨a, b, c, d⟩, e⟩, f⟩, g, g2⟩; exact ⟨e, f, .inr (.inl ⟨h10, by omega, by omega, g, g2⟩)⟩
    · rintro ⟨a, b, ⟨h, _⟩ | ⟨_, c, d, e, f⟩ | ⟨h, _⟩⟩
      · omega
      · exact ⟨⟨⟨⟨by omega, .inr (.inr h10), .inl c, .inl d⟩, a⟩, b⟩, e, f⟩
      · omega
  rw [if_neg h10]
  simp only [Bool.and_eq_true, decide_eq_true_eq]
  constructor
  · rintro ⟨⟨⟨⟨a, b, c, d⟩, e⟩, f⟩, g, g2⟩
    exact ⟨e, f, .inr (.inr ⟨by omega, by rcases b with b | b | b; exact b; exact absurd b h9; exact absurd b h10, g, c, d, g2⟩)⟩
  · rintro ⟨a, b, ⟨h, _⟩ | ⟨h, _⟩ | ⟨⟨c1, c2⟩, d, e, f1, f2, f3⟩⟩
    · exact absurd h h9
    · exact absurd h h10
    · exact ⟨⟨⟨⟨by omega, .inl d, f1, f2⟩, a⟩, b⟩, e, f3⟩
theorem all_may_one {L : List RU} : (∀ j (hj : j < L.length), mayB L j L[j] = true) ↔ (∀ j (hj : j < L.length), oneB L j L[j] = true) := by
  constructor
  · intro h j hj
    obtain ⟨a, b, c⟩ := may_iff.1 (h j hj)
    refine one_iff.2 ⟨a, b, ?_⟩
    rcases c with c | ⟨c1, c2, c3, c4, c5⟩ | c
    · exact .inl c
    · exact .inr (.inl ⟨c1, c2, c3, c4, by omega⟩)
    · exact .inr (.inr c)
  · intro h j hj
    obtain ⟨a, b, c⟩ := one_iff.1 (h j hj)
    refine may_iff.2 ⟨a, b, ?_⟩
    rcases c with c | ⟨c1, c2, c3, c4, c5⟩ | c
    · exact .inl c
    · refine .inr (.inl ⟨c1, c2, c3, c4, ?_⟩)
      obtain ⟨_, ⟨x, hx, _, ex, _, kx⟩, ⟨y, hy, _, ey, _, ky⟩⟩ := joins_facts (by decide) c4
      have flag : ∀ z (hz : z < L.length), L[z].k = 7 → L[z].start = 0 ∨ L[z].start = 1 := fun z hz kz => by
        obtain ⟨_, _, q⟩ := one_iff.1 (h z hz)
        rcases q with ⟨q, _⟩ | ⟨q, _⟩ | ⟨_, _, _, _, _, q⟩
        · omega
        · omega
        · unfold beginsB at q
          rw [if_neg (by omega), if_pos kz, Bool.or_eq_true, decide_eq_true_eq, decide_eq_true_eq] at q
          exact q
      rw [ex, ey] at c5 ⊢
      have := flag x hx kx
      have := flag y hy ky
      omega
    · exact .inr (.inr c)
theorem checkD_C (L : List RU) : checkD L = checkC L := by
  unfold checkD checkC
  split
  · rfl
  · have e : allAt (oneB L) 0 L = allAt (mayB L) 0 L := by
      rw [Bool.eq_iff_iff, allAt_iff, allAt_iff]
      simp only [Nat.zero_add]
      exact all_may_one.symm
    rw [e]
theorem formD_C (L : List RU) (m : Int) (ops : List TO) : formD L m ops = formC L m ops := by
  unfold formD formC
  rw [checkD_C]
  split
  · rfl
  · split
    · rfl
    · next hk =>
      rw [paid_good (okOp_of (by simpa using hk))]
end Go.Proofs.YtnjmgknicffcbaaGreatDoor
namespace Go.Proofs.YtnjmgknicffcbaaGreatDoor
open Go.RowKit Go.Joins Go.Maps
set_option linter.unusedSimpArgs false
set_option linter.unusedVariables false

/-- Any value reads as itself. -/
def rdA (v : Value) : Option (DataW Value × List MemPlace) := some (.held v, [])
/-- Block b is a map of at most n entries that tells F. -/
def MapS (w : World) (b n : Nat) (F : ByteArray → Option Value) : Prop :=
  ∃ D : DataW Value, w.ownsMap Tryz.prog 9 rdA b n D ∧ IsMap D ∧ ∀ s : ByteArray, has D (.string s.data.toList) = (F s).isSome ∧ ∀ z : Value, D.atKey (.string s.data.toList) (.held z) = .held ((F s).getD z)
theorem MapS.made (w : World) : MapS (w.alloc (.map #[] 0)) w.heap.size 0 (fun _ => none) := ⟨.map [], World.ownsMap_made _ _ _ _, ⟨[], rfl⟩, fun _ => ⟨rfl, fun _ => rfl⟩⟩
theorem MapS.kept {w w' : World} {b n : Nat} {F : ByteArray → Option Value} {row : Option Nat} (h : MapS w b n F) (hg : w.grownBy w' row) (hne : some b ≠ row) : MapS w' b n F := by
  obtain ⟨D, h1, h2, h3⟩ := h
  exact ⟨D, h1.kept hg hne, h2, h3⟩
theorem MapS.gr {w w' : World} {b n : Nat} {F : ByteArray → Option Value} (h : MapS w b n F) (g : Gr w w') : MapS w' b n F := h.kept (Kp.of_gr (r := none) g) (by simp)
theorem MapS.lt {w : World} {b n : Nat} {F : ByteArray → Option Value} (h : MapS w b n F) : b < w.heap.size := by
  obtain ⟨D, h1, _⟩ := h
  exact h1.lt
theorem MapS.look {w : World} {b n : Nat} {F : ByteArray → Option Value} (h : MapS w b n F) {t e : TypeId} (ht : Tryz.prog.underlying t = some (.map 9 e)) {z : Value} (hz : (zeroValue e).run Tryz.prog w = .ok z w) (s : ByteArray) (hs : s.size ≤ maxLen) :
    (Instr.lookup t (.map (some b)) (.string s) true).run Tryz.prog w = .ok (.tuple #[(F s).getD z, .bool (F s).isSome]) w := by
  obtain ⟨D, h1, h2, h3⟩ := h
  obtain ⟨v, ps, hrun, hv⟩ := h1.look_ok keyStr ht hz (zd := .held z) (zp := []) rfl (WideMaps.keyOf_string_mk Tryz.underlying9 hs)
  rw [(h3 s).2] at hv
  rw [(h3 s).1] at hrun
  have hv' : (some (DataW.held v, []) : Option (DataW Value × List MemPlace)) = some (.held ((F s).getD z), ps) := hv
  have e1 := congrArg Prod.fst (Option.some.inj hv')
  have e2 : v = (F s).getD z := DataW.held.inj e1
  rw [e2] at hrun
  exact hrun
theorem MapS.put {w' : World} {b n : Nat} {F : ByteArray → Option Value} {D : DataW Value} {s : ByteArray} {v : Value} (h2 : IsMap D) (h3 : ∀ s : ByteArray, has D (.string s.data.toList) = (F s).isSome ∧ ∀ z : Value, D.atKey (.string s.data.toList) (.held z) = .held ((F s).getD z)) (h : w'.ownsMap Tryz.prog 9 rdA b n (D.put (.string s.data.toList) (.held v))) :
    MapS w' b n (fun x => if x = s then some v else F x) := by
  refine ⟨_, h, ?_, fun x => ?_⟩
  · obtain ⟨es, rfl⟩ := h2
    exact ⟨_, rfl⟩
  · show has (D.put (.string s.data.toList) (.held v)) (.string x.data.toList) = (if x = s then some v else F x).isSome ∧ ∀ z : Value, (D.put (.string s.data.toList) (.held v)).atKey (.string x.data.toList) (.held z) = .held ((if x = s then some v else F x).getD z)
    by_cases e : x = s
    · subst e
      rw [has_put_same h2 (show WideAt.IsKeyLit (.string x.data.toList) from trivial)]
      refine ⟨by rw [if_pos rfl]; rfl, fun z => ?_⟩
      rw [atKey_put_same h2 (show WideAt.IsKeyLit (.string x.data.toList) from trivial), if_pos rfl]
      rfl
    · have hne : (Lit.string x.data.toList) ≠ .string s.data.toList := fun q => e (by
        injection q with q
        exact ByteArray.ext (Array.ext' q))
      rw [has_put_other hne, if_neg e]
      exact ⟨(h3 x).1, fun z => by rw [atKey_put_other hne]; exact (h3 x).2 z⟩
/-- A store, in the walk. -/
theorem wpList_putS {w : World} {ops : Array Oper} {rest : List Oper} {o : Oper} {a : Act} {Q : Exit → Act → World → Prop} (hg : o.guard = none) (m x v : Operand) (t e : TypeId) (ht : Tryz.prog.underlying t = some (.map 9 e)) (hop : o.op = Op.mapUpdate t m x v)
    (b n : Nat) (F : ByteArray → Option Value) (hm : a.eval m = .map (some b)) (h : MapS w b n F) (hn : n < maxLen) (s : ByteArray) (hs : s.size ≤ maxLen) (y : Value) (hx : a.eval x = .string s) (hv : a.eval v = y)
    (hK : ∀ w', MapS w' b (n + 1) (fun q => if q = s then some y else F q) → w.grownBy w' (some b) → wpList Tryz.prog ops Q rest (a.put o.dst undef) w') :
    wpList Tryz.prog ops Q (o :: rest) a w := by
  obtain ⟨D, h1, h2, h3⟩ := h
  exact wpList_mapUpdate_own w hg m x v t hop 9 e keyStr ht rdA b n D hm h1 hn _ _ _ hx hv (WideMaps.keyOf_string_mk Tryz.underlying9 hs) (.held y) [] rfl fun w' r1 r2 => hK w' (MapS.put h2 h3 r1) r2
theorem MapS.ne {w : World} {b n B size m : Nat} {F : ByteArray → Option Value} {ty : TypeId} {v : Value} {xs : List Value} (h : MapS w b n F) (ho : w.ownsRow B ty size v m xs) : some b ≠ v.ownBlock := by
  obtain ⟨D, ⟨es, clock, hb, _⟩, _⟩ := h
  intro e
  rcases ho.2 with ⟨hv, _⟩ | ⟨g, cap, cur, hv, _, hg, _⟩
  · subst hv
    cases e
  · subst hv
    have e2 : some b = some g := e
    injection e2 with e2
    subst e2
    rw [hb] at hg
    cases hg
/-- Is the string among these? -/
def hasK (K : List ByteArray) (s : ByteArray) : Bool := K.any fun k => eqS k s
theorem hasK_snoc (K : List ByteArray) (s q : ByteArray) : hasK (K ++ [s]) q = (hasK K q || eqS s q) := by unfold hasK; rw [List.any_append]; simp
/-- Block b is a set of strings: those of K. -/
def SetM (w : World) (b n : Nat) (K : List ByteArray) : Prop := ∃ F, MapS w b n F ∧ ∀ s, F s = if hasK K s = true then some (Value.agg #[]) else Option.none
theorem SetM.made (w : World) : SetM (w.alloc (.map #[] 0)) w.heap.size 0 [] := ⟨_, MapS.made w, fun s => rfl⟩
theorem SetM.gr {w w' : World} {b n : Nat} {K : List ByteArray} (h : SetM w b n K) (g : Gr w w') : SetM w' b n K := by
  obtain ⟨F, h1, h2⟩ := h
  exact ⟨F, h1.gr g, h2⟩
theorem SetM.kept {w w' : World} {b n : Nat} {K : List ByteArray} {row : Option Nat} (h : SetM w b n K) (hg : w.grownBy w' row) (hne : some b ≠ row) : SetM w' b n K := by
  obtain ⟨F, h1, h2⟩ := h
  exact ⟨F, h1.kept hg hne, h2⟩
theorem SetM.ne {w : World} {b n B size m : Nat} {K : List ByteArray} {ty : TypeId} {v : Value} {xs : List Value} (h : SetM w b n K) (ho : w.ownsRow B ty size v m xs) : some b ≠ v.ownBlock := by
  obtain ⟨F, h1, _⟩ := h
  exact h1.ne ho
theorem zeroUnit (w : World) : (zeroValue 178).run Tryz.prog w = .ok (.agg #[]) w := by kernel_rfl
theorem SetM.look {w : World} {b n : Nat} {K : List ByteArray} (h : SetM w b n K) (s : ByteArray) (hs : s.size ≤ maxLen) :
    (Instr.lookup 177 (.map (some b)) (.string s) true).run Tryz.prog w = .ok (.tuple #[.agg #[], .bool (hasK K s)]) w := by
  obtain ⟨F, h1, h2⟩ := h
  have h3 := h1.look Tryz.underlying177 (zeroUnit w) s hs
  rw [h2 s] at h3
  rcases q : hasK K s with _ | _
  · rw [q] at h3
    exact h3
  · rw [q] at h3
    exact h3
theorem wpList_putU {w : World} {ops : Array Oper} {rest : List Oper} {o : Oper} {a : Act} {Q : Exit → Act → World → Prop} (hg : o.guard = none) (m x v : Operand) (hop : o.op = Op.mapUpdate 177 m x v)
    (b n : Nat) (K : List ByteArray) (hm : a.eval m = .map (some b)) (h : SetM w b n K) (hn : n < maxLen) (s : ByteArray) (hs : s.size ≤ maxLen) (hx : a.eval x = .string s) (hv : a.eval v = .agg #[])
    (hK : ∀ w', SetM w' b (n + 1) (K ++ [s]) → w.grownBy w' (some b) → wpList Tryz.prog ops Q rest (a.put o.dst undef) w') :
    wpList Tryz.prog ops Q (o :: rest) a w := by
  obtain ⟨F, h1, h2⟩ := h
  refine wpList_putS hg m x v 177 178 Tryz.underlying177 hop b n F hm h1 hn s hs (.agg #[]) hx hv fun w' r1 r2 => hK w' ⟨_, r1, fun q => ?_⟩ r2
  show (if q = s then some (Value.agg #[]) else F q) = _
  rw [h2 q]
  rw [hasK_snoc]
  by_cases e : q = s
  · subst e
    have : eqS q q = true := eqS_iff.2 rfl
    rw [if_pos rfl, this, Bool.or_true, if_pos rfl]
  · have : eqS s q = false := by
      rw [Bool.eq_false_iff]
      exact fun x => e (eqS_iff.1 x).symm
    rw [if_neg e, this, Bool.or_false]
end Go.Proofs.YtnjmgknicffcbaaGreatDoor
