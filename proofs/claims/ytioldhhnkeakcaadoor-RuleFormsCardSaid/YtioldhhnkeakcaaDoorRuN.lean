/- Mathematics of what operations owe: the program's way of asking and the document's are one. -/
import Derived.Test.YtioldhhnkeakcaaDoorRuB
import Derived.Test.YtioldhhnkeakcaaDoorTxF
namespace Go.Proofs.YtioldhhnkeakcaaDoor
open Go.RowKit
set_option linter.unusedSimpArgs false
set_option linter.unusedVariables false

/-- Does an operation of a kind fit a key of a kind? -/
def fitsB (k op : Int) : Bool :=
  if k = 1 then decide (op = 1) || decide (op = 2) else if k = 2 then (decide (op = 1) || decide (op = 2)) || decide (op = 3)
  else if k = 3 ∨ k = 4 ∨ k = 8 then decide (op = 4) || decide (op = 5) else if k = 5 ∨ k = 6 then decide (op = 6) else if k = 7 then decide (op = 7) || decide (op = 8) else false
/-- The first operation without a rule, or that doesn't fit. -/
def scanE (L : List RU) : List TO → Int
  | [] => 0
  | o :: t => if (ruleR L o.key).k = 0 then 140 else if fitsB (ruleR L o.key).k o.kind = false then 100 else scanE L t
noncomputable def ownB (m : Int) (e : ByteArray) : Bool := match PV.wholeL e.data.toList with
  | some n => decide (0 ≤ n) && decide (n.tmod 8 = m)
  | none => false
def revO (o : TO) : Option TO := if o.kind = 4 then some ⟨5, o.key, o.elem, 0⟩ else if o.kind = 8 then some ⟨7, o.key, ⟨#[]⟩, 0⟩ else none
def hasO (ops : List TO) (y : TO) : Bool := ops.any fun x => eqTO y x
def debtO (r : RU) (o : TO) : Option TO :=
  if r.k = 9 ∧ o.kind = 4 ∧ o.key = r.key then some ⟨4, r.other, o.elem, 0⟩ else if r.k = 9 ∧ o.kind = 5 ∧ o.key = r.other then some ⟨5, r.key, o.elem, 0⟩
  else if r.k = 10 ∧ o.kind = 8 ∧ o.key = r.key then some ⟨7, r.other, ⟨#[]⟩, 0⟩ else if r.k = 10 ∧ o.kind = 8 ∧ o.key = r.other then some ⟨7, r.key, ⟨#[]⟩, 0⟩ else none
def owesB (ops : List TO) : Option TO → Bool
  | some y => hasO ops y
  | none => true
def opposeB (ops : List TO) : Option TO → Bool
  | some y => hasO ops y
  | none => false
noncomputable def badId (L : List RU) (m : Int) (o : TO) : Bool := decide (o.kind = 4) && decide ((ruleR L o.key).k = 8) && !ownB m o.elem
noncomputable def paidB (L : List RU) (m : Int) (ops : List TO) (o : TO) : Bool := !badId L m o && !opposeB ops (revO o) && L.all fun r => owesB ops (debtO r o)
def okOpsB (m : Int) (ops : List TO) : Bool := decide (0 ≤ m ∧ m < 8 ∧ 1 ≤ ops.length ∧ ops.length ≤ 8) && ops.all fun o => opB o m
noncomputable def formC (L : List RU) (m : Int) (ops : List TO) : Int :=
  if checkC L ≠ 0 then checkC L else if okOpsB m ops = false then 80 else if scanE L ops ≠ 0 then scanE L ops else if ops.all (paidB L m ops) = true then 0 else 141
/-- The document's way. -/
def isO (kind : Int) (key elem : ByteArray) (x : TO) : Bool := decide (x.kind = kind) && eqS x.key key && eqS x.elem elem
def holdsO (ops : List TO) (kind : Int) (key elem : ByteArray) : Bool := ops.any (isO kind key elem)
def owedB (ops : List TO) (o : TO) (r : RU) : Bool :=
  if r.k = 9 ∧ o.kind = 4 ∧ o.key = r.key then holdsO ops 4 r.other o.elem else if r.k = 9 ∧ o.kind = 5 ∧ o.key = r.other then holdsO ops 5 r.key o.elem
  else if r.k = 10 ∧ o.kind = 8 ∧ o.key = r.key then holdsO ops 7 r.other ⟨#[]⟩ else if r.k = 10 ∧ o.kind = 8 ∧ o.key = r.other then holdsO ops 7 r.key ⟨#[]⟩ else true
def crossB (ops : List TO) (o : TO) : Bool := (decide (o.kind = 4) && holdsO ops 5 o.key o.elem) || (decide (o.kind = 7) && holdsO ops 8 o.key ⟨#[]⟩)
noncomputable def badIdD (L : List RU) (m : Int) (o : TO) : Bool := (decide ((ruleR L o.key).k = 8) && !ownB m o.elem) && decide (o.kind = 4)
noncomputable def goodD (L : List RU) (m : Int) (ops : List TO) (o : TO) : Bool := !crossB ops o && !badIdD L m o && L.all fun r => owedB ops o r
noncomputable def formD (L : List RU) (m : Int) (ops : List TO) : Int :=
  if checkD L ≠ 0 then checkD L else if okOpsB m ops = false then 80 else if scanE L ops ≠ 0 then scanE L ops else if ops.all (goodD L m ops) = true then 0 else 141

theorem eqTO_dec {x y : TO} : eqTO x y = true ↔ x.kind = y.kind ∧ x.key = y.key ∧ x.elem = y.elem ∧ x.n = y.n := by
  unfold eqTO
  rw [Bool.and_eq_true, Bool.and_eq_true, Bool.and_eq_true, eqS_iff, eqS_iff, beq_iff_eq, beq_iff_eq]
theorem isO_dec {kind : Int} {key elem : ByteArray} {x : TO} : isO kind key elem x = true ↔ x.kind = kind ∧ x.key = key ∧ x.elem = elem := by
  unfold isO
  rw [Bool.and_eq_true, Bool.and_eq_true, decide_eq_true_eq, eqS_iff, eqS_iff]
  exact ⟨fun h => ⟨h.1.1, h.1.2, h.2⟩, fun h => ⟨⟨h.1, h.2.1⟩, h.2.2⟩⟩
theorem okOp_of {m : Int} {ops : List TO} (h : okOpsB m ops = true) : ∀ o ∈ ops, okOp o m := by
  unfold okOpsB at h
  rw [Bool.and_eq_true, List.all_eq_true] at h
  exact fun o ho => of_decide_eq_true (h.2 o ho)
theorem okOp_n {o : TO} {m : Int} (h : okOp o m) (hk : o.kind = 4 ∨ o.kind = 5 ∨ o.kind = 7 ∨ o.kind = 8) : o.n = 0 := by
  obtain ⟨_, _, h3⟩ := h
  rcases h3 with ⟨h, _⟩ | ⟨h, _⟩ | ⟨_, h⟩ | ⟨_, h, _⟩
  · omega
  · omega
  · exact h
  · exact h
theorem okOp_e {o : TO} {m : Int} (h : okOp o m) (hk : o.kind = 7 ∨ o.kind = 8) : o.elem = ⟨#[]⟩ := by
  obtain ⟨_, _, h3⟩ := h
  rcases h3 with ⟨h, _⟩ | ⟨h, _⟩ | ⟨h, _⟩ | ⟨_, _, h⟩
  · omega
  · omega
  · omega
  · cases ho : o.elem with
    | mk d =>
      rw [ho] at h
      exact congrArg ByteArray.mk (Array.eq_empty_of_size_eq_zero h)
theorem has_holds {m : Int} {ops : List TO} (h : ∀ o ∈ ops, okOp o m) {y : TO} (hk : y.kind = 4 ∨ y.kind = 5 ∨ y.kind = 7 ∨ y.kind = 8) (hn : y.n = 0) : hasO ops y = holdsO ops y.kind y.key y.elem := by
  unfold hasO holdsO
  rw [Bool.eq_iff_iff, List.any_eq_true, List.any_eq_true]
  constructor
  · rintro ⟨x, hx, e⟩
    obtain ⟨a, b, c, _⟩ := eqTO_dec.1 e
    exact ⟨x, hx, isO_dec.2 ⟨a.symm, b.symm, c.symm⟩⟩
  · rintro ⟨x, hx, e⟩
    obtain ⟨a, b, c⟩ := isO_dec.1 e
    exact ⟨x, hx, eqTO_dec.2 ⟨a.symm, b.symm, c.symm, by rw [hn, okOp_n (h x hx) (by rw [a]; exact hk)]⟩⟩
theorem owes_owed {m : Int} {ops : List TO} (h : ∀ o ∈ ops, okOp o m) (o : TO) (r : RU) : owesB ops (debtO r o) = owedB ops o r := by
  unfold debtO owedB
  split
  · exact has_holds h (.inl rfl) rfl
  · split
    · exact has_holds h (.inr (.inl rfl)) rfl
    · split
      · exact has_holds h (.inr (.inr (.inl rfl))) rfl
      · split
        · exact has_holds h (.inr (.inr (.inl rfl))) rfl
        · rfl
theorem bad_bad (L : List RU) (m : Int) (o : TO) : badId L m o = badIdD L m o := by
  unfold badId badIdD
  cases decide (o.kind = 4) <;> simp
/-- The two ways are one. -/
theorem paid_good {L : List RU} {m : Int} {ops : List TO} (h : ∀ o ∈ ops, okOp o m) : ops.all (paidB L m ops) = ops.all (goodD L m ops) := by
  rw [Bool.eq_iff_iff, List.all_eq_true, List.all_eq_true]
  have split1 : ∀ o, paidB L m ops o = true ↔ badId L m o = false ∧ opposeB ops (revO o) = false ∧ (L.all fun r => owesB ops (debtO r o)) = true := fun o => by
    unfold paidB; rw [Bool.and_eq_true, Bool.and_eq_true, Bool.not_eq_true', Bool.not_eq_true', and_assoc]
  have split2 : ∀ o, goodD L m ops o = true ↔ crossB ops o = false ∧ badIdD L m o = false ∧ (L.all fun r => owedB ops o r) = true := fun o => by
    unfold goodD; rw [Bool.and_eq_true, Bool.and_eq_true, Bool.not_eq_true', Bool.not_eq_true', and_assoc]
  have same3 : ∀ o, (L.all fun r => owesB ops (debtO r o)) = (L.all fun r => owedB ops o r) := fun o => by
    congr 1; funext r; exact owes_owed h o r
  have rev4 : ∀ o : TO, o.kind = 4 → opposeB ops (revO o) = holdsO ops 5 o.key o.elem := fun o ho => by
    unfold revO; rw [if_pos ho]; exact has_holds h (y := ⟨5, o.key, o.elem, 0⟩) (.inr (.inl rfl)) rfl
  have rev8 : ∀ o : TO, o.kind = 8 → opposeB ops (revO o) = holdsO ops 7 o.key ⟨#[]⟩ := fun o ho => by
    unfold revO; rw [if_neg (by omega), if_pos ho]; exact has_holds h (y := ⟨7, o.key, ⟨#[]⟩, 0⟩) (.inr (.inr (.inl rfl))) rfl
  have revx : ∀ o : TO, o.kind ≠ 4 → o.kind ≠ 8 → opposeB ops (revO o) = false := fun o h4 h8 => by
    unfold revO; rw [if_neg h4, if_neg h8]; rfl
  constructor
  · intro hp o ho
    obtain ⟨a, b, c⟩ := (split1 o).1 (hp o ho)
    refine (split2 o).2 ⟨?_, by rw [← bad_bad]; exact a, by rw [← same3]; exact c⟩
    unfold crossB
    by_cases k4 : o.kind = 4
    · rw [rev4 o k4] at b
      rw [b, decide_eq_false (p := o.kind = 7) (by omega), Bool.and_false, Bool.false_and]; rfl
    · rw [decide_eq_false k4, Bool.false_and, Bool.false_or]
      by_cases k7 : o.kind = 7
      · cases hx : holdsO ops 8 o.key ⟨#[]⟩ with
        | false => rw [Bool.and_false]
        | true =>
          exfalso
          obtain ⟨x, hxm, hxo⟩ := List.any_eq_true.1 hx
          obtain ⟨e1, e2, e3⟩ := isO_dec.1 hxo
          have := ((split1 x).1 (hp x hxm)).2.1
          rw [rev8 x e1] at this
          have ht : holdsO ops 7 x.key ⟨#[]⟩ = true := List.any_eq_true.2 ⟨o, ho, isO_dec.2 ⟨k7, e2.symm, okOp_e (h o ho) (.inl k7)⟩⟩
          rw [ht] at this
          cases this
      · rw [decide_eq_false k7, Bool.false_and]
  · intro hp o ho
    obtain ⟨a, b, c⟩ := (split2 o).1 (hp o ho)
    refine (split1 o).2 ⟨by rw [bad_bad]; exact b, ?_, by rw [same3]; exact c⟩
    unfold crossB at a
    rw [Bool.or_eq_false_iff] at a
    by_cases k4 : o.kind = 4
    · rw [rev4 o k4]
      have := a.1
      rw [decide_eq_true k4, Bool.true_and] at this
      exact this
    · by_cases k8 : o.kind = 8
      · rw [rev8 o k8]
        cases hx : holdsO ops 7 o.key ⟨#[]⟩ with
        | false => rfl
        | true =>
          exfalso
          obtain ⟨x, hxm, hxo⟩ := List.any_eq_true.1 hx
          obtain ⟨e1, e2, e3⟩ := isO_dec.1 hxo
          have h2 := ((split2 x).1 (hp x hxm)).1
          unfold crossB at h2
          rw [Bool.or_eq_false_iff, decide_eq_true e1, Bool.true_and] at h2
          have ht : holdsO ops 8 x.key ⟨#[]⟩ = true := List.any_eq_true.2 ⟨o, ho, isO_dec.2 ⟨k8, e2.symm, okOp_e (h o ho) (.inr k8)⟩⟩
          rw [ht] at h2
          exact Bool.noConfusion h2.2
      · exact revx o k4 k8
theorem nil_iffR {s : ByteArray} : s.toList.isEmpty = true ↔ s = ⟨#[]⟩ := by
  rw [ByteArray.toList_eq, List.isEmpty_iff]
  constructor
  · intro h
    cases s with
    | mk d => exact congrArg ByteArray.mk (Array.toList_eq_nil_iff.1 h)
  · intro h; rw [h]
theorem one_iff {L : List RU} {i : Nat} {r : RU} : oneB L i r = true ↔ keyS r.key = true ∧ (inAB r.min && inAB r.start) = true ∧
    ((r.k = 9 ∧ r.min = 0 ∧ r.start = 0 ∧ joinsB L r 3 = true) ∨ (r.k = 10 ∧ r.min = 0 ∧ r.start = 0 ∧ joinsB L r 7 = true ∧ ((ruleR L r.key).start ≠ 0 ∨ (ruleR L r.other).start ≠ 0)) ∨
      ((1 ≤ r.k ∧ r.k ≤ 8) ∧ r.other.toList.isEmpty = true ∧ fInt L r.key = (i : Int) ∧ (r.min = 0 ∨ r.k = 2) ∧ (r.start = 0 ∨ r.k = 1 ∨ r.k = 2 ∨ r.k = 7) ∧ beginsB r = true)) := by
  unfold oneB beginsB knB
  rw [pair_joins (by decide), pair_joins (by decide)]
  by_cases h9 : r.k = 9
  · rw [if_pos h9]
    simp only [Bool.and_eq_true, decide_eq_true_eq]
    constructor
    · rintro ⟨⟨a, b⟩, ⟨c, d⟩, e⟩; exact ⟨a, b, .inl ⟨h9, c, d, e⟩⟩
    · rintro ⟨a, b, ⟨_, c, d, e⟩ | ⟨h, _⟩ | ⟨h, _⟩⟩
      · exact ⟨⟨a, b⟩, ⟨c, d⟩, e⟩
      · omega
      · omega
  rw [if_neg h9]
  by_cases h10 : r.k = 10
  · rw [if_pos h10]
    simp only [Bool.and_eq_true, Bool.or_eq_true, decide_eq_true_eq]
    constructor
    · rintro ⟨⟨a, b⟩, ⟨⟨c, d⟩, e⟩, f⟩; exact ⟨a, b, .inr (.inl ⟨h10, c, d, e, f⟩)⟩
    · rintro ⟨a, b, ⟨h, _⟩ | ⟨_, c, d, e, f⟩ | ⟨h, _⟩⟩
      · omega
      · exact ⟨⟨a, b⟩, ⟨⟨c, d⟩, e⟩, f⟩
      · omega
  rw [if_neg h10]
  simp only [Bool.and_eq_true, decide_eq_true_eq]
  constructor
  · rintro ⟨⟨a, b⟩, ⟨⟨⟨c1, c2⟩, d⟩, e⟩, f⟩
    refine ⟨a, b, .inr (.inr ⟨⟨c1, c2⟩, d, e, ?_⟩)⟩
    by_cases k1 : r.k = 1
    · rw [if_pos k1] at f
      exact ⟨.inl (of_decide_eq_true f), .inr (.inl k1), by rw [if_neg (by omega), if_neg (by omega)]⟩
    by_cases k2 : r.k = 2
    · rw [if_neg k1, if_pos k2] at f
      exact ⟨.inr k2, .inr (.inr (.inl k2)), by rw [if_pos k2]; exact f⟩
    by_cases k7 : r.k = 7
    · rw [if_neg k1, if_neg k2, if_pos k7, Bool.and_eq_true, decide_eq_true_eq] at f
      exact ⟨.inl f.1, .inr (.inr (.inr k7)), by rw [if_neg k2, if_pos k7]; exact f.2⟩
    rw [if_neg k1, if_neg k2, if_neg k7, Bool.and_eq_true, decide_eq_true_eq, decide_eq_true_eq] at f
    exact ⟨.inl f.1, .inl f.2, by rw [if_neg k2, if_neg k7]⟩
  · rintro ⟨a, b, ⟨h, _⟩ | ⟨h, _⟩ | ⟨⟨c1, c2⟩, d, e, f1, f2, f3⟩⟩
    · exact absurd h h9
    · exact absurd h h10
    refine ⟨⟨a, b⟩, ⟨⟨⟨c1, c2⟩, d⟩, e⟩, ?_⟩
    by_cases k1 : r.k = 1
    · rw [if_pos k1]
      exact decide_eq_true (by omega)
    by_cases k2 : r.k = 2
    · rw [if_neg k1, if_pos k2]
      rw [if_pos k2] at f3
      exact f3
    by_cases k7 : r.k = 7
    · rw [if_neg k1, if_neg k2, if_pos k7, Bool.and_eq_true, decide_eq_true_eq]
      rw [if_neg k2, if_pos k7] at f3
      exact ⟨by omega, f3⟩
    rw [if_neg k1, if_neg k2, if_neg k7, Bool.and_eq_true, decide_eq_true_eq, decide_eq_true_eq]
    exact ⟨by omega, by omega⟩
theorem may_iff {L : List RU} {i : Nat} {r : RU} : mayB L i r = true ↔ keyS r.key = true ∧ (inAB r.min && inAB r.start) = true ∧
    ((r.k = 9 ∧ r.min = 0 ∧ r.start = 0 ∧ joinsB L r 3 = true) ∨ (r.k = 10 ∧ r.min = 0 ∧ r.start = 0 ∧ joinsB L r 7 = true ∧ ((ruleR L r.key).start = 1 ∨ (ruleR L r.other).start = 1)) ∨
      ((1 ≤ r.k ∧ r.k ≤ 8) ∧ r.other.toList.isEmpty = true ∧ fInt L r.key = (i : Int) ∧ (r.min = 0 ∨ r.k = 2) ∧ (r.start = 0 ∨ r.k = 1 ∨ r.k = 2 ∨ r.k = 7) ∧ beginsB r = true)) := by
  unfold mayB
  rw [Bool.and_eq_true, Bool.and_eq_true, Bool.and_eq_true, named_iff]
  by_cases h9 : r.k = 9
  · rw [if_pos h9]
    constructor
    · rintro ⟨⟨⟨⟨a, b, c, d⟩, e⟩, f⟩, g⟩; exact ⟨e, f, .inl ⟨h9, by omega, by omega, g⟩⟩
    · rintro ⟨a, b, ⟨_, c, d, e⟩ | ⟨h, _⟩ | ⟨h, _⟩⟩
      · exact ⟨⟨⟨⟨by omega, .inr (.inl h9), .inl c, .inl d⟩, a⟩, b⟩, e⟩
      · omega
      · omega
  rw [if_neg h9]
  by_cases h10 : r.k = 10
  · rw [if_pos h10]
    simp only [Bool.and_eq_true, Bool.or_eq_true, decide_eq_true_eq]
    constructor
    · rintro ⟨⟨⟨⟨a, b, c, d⟩, e⟩, f⟩, g, g2⟩; exact ⟨e, f, .inr (.inl ⟨h10, by omega, by omega, g, g2⟩)⟩
    · rintro ⟨a, b, ⟨h, _⟩ | ⟨_, c, d, e, f⟩ | ⟨h, _⟩⟩
      · omega
      · exact ⟨⟨⟨⟨by omega, .inr (.inr h10), .inl c, .inl d⟩, a⟩, b⟩, e, f⟩
      · omega
  rw [if_neg h10]
  simp only [Bool.and_eq_true, decide_eq_true_eq]
  constructor
  · rintro ⟨⟨⟨⟨a, b, c, d⟩, e⟩, f⟩, g, g2⟩
    exact ⟨e, f, .inr (.inr ⟨by omega, by rcases b with b | b | b; exact b; exact absurd b h9; exact absurd b h10, g, c, d, g2⟩)⟩
  · rintro ⟨a, b, ⟨h, _⟩ | ⟨h, _⟩ | ⟨⟨c1, c2⟩, d, e, f1, f2, f3⟩⟩
    · exact absurd h h9
    · exact absurd h h10
    · exact ⟨⟨⟨⟨by omega, .inl d, f1, f2⟩, a⟩, b⟩, e, f3⟩
theorem all_may_one {L : List RU} : (∀ j (hj : j < L.length), mayB L j L[j] = true) ↔ (∀ j (hj : j < L.length), oneB L j L[j] = true) := by
  constructor
  · intro h j hj
    obtain ⟨a, b, c⟩ := may_iff.1 (h j hj)
    refine one_iff.2 ⟨a, b, ?_⟩
    rcases c with c | ⟨c1, c2, c3, c4, c5⟩ | c
    · exact .inl c
    · exact .inr (.inl ⟨c1, c2, c3, c4, by omega⟩)
    · exact .inr (.inr c)
  · intro h j hj
    obtain ⟨a, b, c⟩ := one_iff.1 (h j hj)
    refine may_iff.2 ⟨a, b, ?_⟩
    rcases c with c | ⟨c1, c2, c3, c4, c5⟩ | c
    · exact .inl c
    · refine .inr (.inl ⟨c1, c2, c3, c4, ?_⟩)
      obtain ⟨_, ⟨x, hx, _, ex, _, kx⟩, ⟨y, hy, _, ey, _, ky⟩⟩ := joins_facts (by decide) c4
      have flag : ∀ z (hz : z < L.length), L[z].k = 7 → L[z].start = 0 ∨ L[z].start = 1 := fun z hz kz => by
        obtain ⟨_, _, q⟩ := one_iff.1 (h z hz)
        rcases q with ⟨q, _⟩ | ⟨q, _⟩ | ⟨_, _, _, _, _, q⟩
        · omega
        · omega
        · unfold beginsB at q
          rw [if_neg (by omega), if_pos kz, Bool.or_eq_true, decide_eq_true_eq, decide_eq_true_eq] at q
          exact q
      rw [ex, ey] at c5 ⊢
      have := flag x hx kx
      have := flag y hy ky
      omega
    · exact .inr (.inr c)
theorem checkD_C (L : List RU) : checkD L = checkC L := by
  unfold checkD checkC
  split
  · rfl
  · have e : allAt (oneB L) 0 L = allAt (mayB L) 0 L := by
      rw [Bool.eq_iff_iff, allAt_iff, allAt_iff]
      simp only [Nat.zero_add]
      exact all_may_one.symm
    rw [e]
theorem formD_C (L : List RU) (m : Int) (ops : List TO) : formD L m ops = formC L m ops := by
  unfold formD formC
  rw [checkD_C]
  split
  · rfl
  · split
    · rfl
    · next hk =>
      rw [paid_good (okOp_of (by simpa using hk))]
end Go.Proofs.YtioldhhnkeakcaaDoor
