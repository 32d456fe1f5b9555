/- Mathematics of catalogues: which rules may be, the program's way of asking and the document's. -/
import Derived.Test.YtioldhhnkeakcaaDoorRuR
import Derived.Test.YtioldhhnkeakcaaDoorRuA
import Derived.Test.YtioldhhnkeakcaaDoorTxD
namespace Go.Proofs.YtioldhhnkeakcaaDoor
open Go.RowKit
set_option linter.unusedSimpArgs false
set_option linter.unusedVariables false

def knB (k : Int) : Bool := decide (1 ≤ k) && decide (k ≤ 8)
/-- Is it a rule of the key? -/
def isF (key : ByteArray) (r : RU) : Bool := knB r.k && eqS r.key key
def fIdx (L : List RU) (key : ByteArray) : Option Nat := L.findIdx? (isF key)
def fInt (L : List RU) (key : ByteArray) : Int := match fIdx L key with
  | some j => (j : Int)
  | none => -1
def zR : RU := ⟨0, ⟨#[]⟩, ⟨#[]⟩, 0, 0⟩
/-- The rule that is found; one of no kind, if there is none. -/
def ruleR (L : List RU) (key : ByteArray) : RU := match fIdx L key with
  | some j => L.getD j zR
  | none => zR
theorem fIdx_some {L : List RU} {key : ByteArray} {j : Nat} : fIdx L key = some j ↔ ∃ h : j < L.length, isF key L[j] = true ∧ ∀ q (hq : q < L.length), q < j → isF key L[q] = false := by
  unfold fIdx
  rw [List.findIdx?_eq_some_iff_getElem]
  constructor
  · rintro ⟨h, h1, h2⟩
    exact ⟨h, h1, fun q hq hqj => Bool.eq_false_iff.2 (h2 q hqj)⟩
  · rintro ⟨h, h1, h2⟩
    exact ⟨h, h1, fun q hqj => Bool.eq_false_iff.1 (h2 q (by omega) hqj)⟩
theorem fIdx_none {L : List RU} {key : ByteArray} : fIdx L key = none ↔ ∀ r ∈ L, isF key r = false := by
  unfold fIdx
  rw [List.findIdx?_eq_none_iff]
theorem fInt_some {L : List RU} {key : ByteArray} {j : Nat} (h : fIdx L key = some j) : fInt L key = (j : Int) := by unfold fInt; rw [h]
theorem fInt_none {L : List RU} {key : ByteArray} (h : fIdx L key = none) : fInt L key = -1 := by unfold fInt; rw [h]
theorem ruleR_some {L : List RU} {key : ByteArray} {j : Nat} (h : fIdx L key = some j) (hj : j < L.length) : ruleR L key = L[j] := by
  unfold ruleR; rw [h]
  simp only [List.getD_eq_getElem?_getD, List.getElem?_eq_getElem hj, Option.getD_some]
theorem ruleR_none {L : List RU} {key : ByteArray} (h : fIdx L key = none) : ruleR L key = zR := by unfold ruleR; rw [h]
/-- A rule of a kind that is one. -/
theorem ruleR_kind {L : List RU} {key : ByteArray} (h : ruleR L key ≠ zR ∨ (ruleR L key).k ≠ 0) : ∃ (j : Nat) (hj : j < L.length), fIdx L key = some j ∧ ruleR L key = L[j] ∧ isF key L[j] = true := by
  cases hf : fIdx L key with
  | none =>
    rw [ruleR_none hf] at h
    rcases h with h | h
    · exact absurd rfl h
    · exact absurd rfl h
  | some j =>
    obtain ⟨hj, h1, _⟩ := fIdx_some.1 hf
    exact ⟨j, hj, rfl, ruleR_some hf hj, h1⟩
theorem isF_key {key : ByteArray} {r : RU} (h : isF key r = true) : r.key = key ∧ 1 ≤ r.k ∧ r.k ≤ 8 := by
  unfold isF knB at h
  rw [Bool.and_eq_true, Bool.and_eq_true, decide_eq_true_eq, decide_eq_true_eq] at h
  exact ⟨eqS_iff.1 h.2, h.1⟩
theorem isF_of {r : RU} (h1 : 1 ≤ r.k) (h2 : r.k ≤ 8) : isF r.key r = true := by
  unfold isF knB
  rw [decide_eq_true h1, decide_eq_true h2, eqS_self]; rfl

def sKEY : ByteArray := ⟨#[75, 69, 89]⟩
def sOTHER : ByteArray := ⟨#[79, 84, 72, 69, 82]⟩
def sMIN : ByteArray := ⟨#[77, 73, 78]⟩
def sSTART : ByteArray := ⟨#[83, 84, 65, 82, 84]⟩
def wCounter : ByteArray := ⟨#[99, 111, 117, 110, 116, 101, 114]⟩
def wBound : ByteArray := ⟨#[98, 111, 117, 110, 100]⟩
def wSet : ByteArray := ⟨#[115, 101, 116]⟩
def wFirm : ByteArray := ⟨#[102, 105, 114, 109]⟩
def wLast : ByteArray := ⟨#[108, 97, 115, 116]⟩
def wMulti : ByteArray := ⟨#[109, 117, 108, 116, 105]⟩
def wFlag : ByteArray := ⟨#[102, 108, 97, 103]⟩
def wIds : ByteArray := ⟨#[105, 100, 115]⟩
def wRef : ByteArray := ⟨#[114, 101, 102]⟩
def wEither : ByteArray := ⟨#[101, 105, 116, 104, 101, 114]⟩
/-- The names in a kind's line. -/
def names (k : Int) : List ByteArray :=
  if k = 1 then [wCounter, sKEY, sSTART] else if k = 2 then [wBound, sKEY, sMIN, sSTART] else if k = 3 then [wSet, sKEY] else if k = 4 then [wFirm, sKEY]
  else if k = 5 then [wLast, sKEY] else if k = 6 then [wMulti, sKEY] else if k = 7 then [wFlag, sKEY, sSTART] else if k = 8 then [wIds, sKEY]
  else if k = 9 then [wRef, sKEY, sOTHER] else if k = 10 then [wEither, sKEY, sOTHER] else []
def hasW (L : List ByteArray) (s : ByteArray) : Bool := L.any fun x => eqS s x
theorem eqS_dec (x y : ByteArray) : eqS x y = decide (x = y) := by
  by_cases h : x = y
  · rw [decide_eq_true h]; exact eqS_iff.2 h
  · rw [decide_eq_false h]
    exact Bool.eq_false_iff.2 (fun e => h (eqS_iff.1 e))
theorem k_cases {k : Int} (h : 1 ≤ k ∧ k ≤ 10) : k = 1 ∨ k = 2 ∨ k = 3 ∨ k = 4 ∨ k = 5 ∨ k = 6 ∨ k = 7 ∨ k = 8 ∨ k = 9 ∨ k = 10 := by omega
theorem names_out {k : Int} (h : ¬ (1 ≤ k ∧ k ≤ 10)) : names k = [] := by
  unfold names
  rw [if_neg (by omega), if_neg (by omega), if_neg (by omega), if_neg (by omega), if_neg (by omega), if_neg (by omega), if_neg (by omega), if_neg (by omega), if_neg (by omega), if_neg (by omega)]
theorem names_in {k : Int} (h : 1 ≤ k ∧ k ≤ 10) : names k ≠ [] := by
  rcases k_cases h with rfl | rfl | rfl | rfl | rfl | rfl | rfl | rfl | rfl | rfl <;> decide
theorem has_other {k : Int} : hasW (names k) sOTHER = (decide (k = 9) || decide (k = 10)) := by
  by_cases h : 1 ≤ k ∧ k ≤ 10
  · unfold hasW
    simp only [eqS_dec]
    rcases k_cases h with rfl | rfl | rfl | rfl | rfl | rfl | rfl | rfl | rfl | rfl <;> decide
  · rw [names_out h, decide_eq_false (by omega), decide_eq_false (by omega)]; rfl
theorem has_min {k : Int} : hasW (names k) sMIN = decide (k = 2) := by
  by_cases h : 1 ≤ k ∧ k ≤ 10
  · unfold hasW
    simp only [eqS_dec]
    rcases k_cases h with rfl | rfl | rfl | rfl | rfl | rfl | rfl | rfl | rfl | rfl <;> decide
  · rw [names_out h, decide_eq_false (by omega)]; rfl
theorem has_start {k : Int} : hasW (names k) sSTART = (decide (k = 1) || decide (k = 2) || decide (k = 7)) := by
  by_cases h : 1 ≤ k ∧ k ≤ 10
  · unfold hasW
    simp only [eqS_dec]
    rcases k_cases h with rfl | rfl | rfl | rfl | rfl | rfl | rfl | rfl | rfl | rfl <;> decide
  · rw [names_out h, decide_eq_false (by omega), decide_eq_false (by omega), decide_eq_false (by omega)]; rfl
/-- Of a kind, and all fields noughts that the line doesn't name. -/
def namedB (r : RU) : Bool := !(names r.k).isEmpty && (r.other.toList.isEmpty || hasW (names r.k) sOTHER) && (decide (r.min = 0) || hasW (names r.k) sMIN) && (decide (r.start = 0) || hasW (names r.k) sSTART)
theorem named_iff {r : RU} : namedB r = true ↔ (1 ≤ r.k ∧ r.k ≤ 10) ∧ (r.other.toList.isEmpty = true ∨ r.k = 9 ∨ r.k = 10) ∧ (r.min = 0 ∨ r.k = 2) ∧ (r.start = 0 ∨ r.k = 1 ∨ r.k = 2 ∨ r.k = 7) := by
  unfold namedB
  rw [has_other, has_min, has_start]
  by_cases h : 1 ≤ r.k ∧ r.k ≤ 10
  · have hn : (names r.k).isEmpty = false := by
      cases he : names r.k with
      | nil => exact absurd he (names_in h)
      | cons a b => rfl
    rw [hn]
    simp only [Bool.not_false, Bool.true_and, Bool.and_eq_true, Bool.or_eq_true, decide_eq_true_eq]
    constructor
    · rintro ⟨⟨h1, h2⟩, h3⟩
      exact ⟨h, h1, h2, by omega⟩
    · rintro ⟨_, h1, h2, h3⟩
      exact ⟨⟨h1, h2⟩, by omega⟩
  · rw [names_out h]
    simp [h]
def inAB (n : Int) : Bool := decide (-1099511627776 ≤ n) && decide (n ≤ 1099511627776)
theorem inAB_iff {n : Int} : inAB n = true ↔ PV.inA n := by
  unfold inAB PV.inA
  rw [Bool.and_eq_true, decide_eq_true_eq, decide_eq_true_eq]
def joinsB (L : List RU) (r : RU) (kind : Int) : Bool := !(eqS r.key r.other) && (decide ((ruleR L r.key).k = kind) && decide ((ruleR L r.other).k = kind))
def beginsB (r : RU) : Bool := if r.k = 2 then decide (r.min ≤ r.start) else if r.k = 7 then (decide (r.start = 0) || decide (r.start = 1)) else true
/-- May the rule be, at this place? The program's way. -/
def mayB (L : List RU) (i : Nat) (r : RU) : Bool :=
  namedB r && keyS r.key && (inAB r.min && inAB r.start) &&
    (if r.k = 9 then joinsB L r 3 else if r.k = 10 then joinsB L r 7 && (decide ((ruleR L r.key).start = 1) || decide ((ruleR L r.other).start = 1))
     else decide (fInt L r.key = (i : Int)) && beginsB r)
/-- The document's: two unlike keys of a kind. -/
def pairB (L : List RU) (r : RU) (kind : Int) : Bool :=
  match fIdx L r.key, fIdx L r.other with
  | some a, some b => decide (a ≠ b) && decide ((L.getD a zR).k = kind) && decide ((L.getD b zR).k = kind)
  | _, _ => false
def oneB (L : List RU) (i : Nat) (r : RU) : Bool :=
  keyS r.key && (inAB r.min && inAB r.start) &&
    (if r.k = 9 then decide (r.min = 0) && decide (r.start = 0) && pairB L r 3
     else if r.k = 10 then decide (r.min = 0) && decide (r.start = 0) && pairB L r 7 && (decide ((ruleR L r.key).start ≠ 0) || decide ((ruleR L r.other).start ≠ 0))
     else knB r.k && r.other.toList.isEmpty && decide (fInt L r.key = (i : Int)) &&
       (if r.k = 1 then decide (r.min = 0) else if r.k = 2 then decide (r.min ≤ r.start) else if r.k = 7 then decide (r.min = 0) && (decide (r.start = 0) || decide (r.start = 1)) else decide (r.min = 0) && decide (r.start = 0)))
def allAt (f : Nat → RU → Bool) : Nat → List RU → Bool
  | _, [] => true
  | i, r :: L => f i r && allAt f (i + 1) L
theorem allAt_iff {f : Nat → RU → Bool} : ∀ {L : List RU} {i : Nat}, allAt f i L = true ↔ ∀ j (hj : j < L.length), f (i + j) L[j] = true
  | [], i => by simp [allAt]
  | r :: L, i => by
    simp only [allAt, Bool.and_eq_true]
    rw [allAt_iff]
    constructor
    · rintro ⟨h1, h2⟩ j hj
      cases j with
      | zero => exact h1
      | succ j =>
        have := h2 j (by simpa using hj)
        rw [show i + 1 + j = i + (j + 1) from by omega] at this
        simpa using this
    · intro h
      refine ⟨h 0 (by simp), fun j hj => ?_⟩
      have := h (j + 1) (by simpa using hj)
      rw [show i + (j + 1) = i + 1 + j from by omega] at this
      simpa using this
theorem allAt_bad {f : Nat → RU → Bool} {L : List RU} {j : Nat} (hj : j < L.length) (h : f j L[j] = false) : allAt f 0 L = false := by
  rw [← Bool.not_eq_true, allAt_iff]
  intro e
  have := e j hj
  rw [Nat.zero_add, h] at this
  cases this
theorem allAt_good {f : Nat → RU → Bool} {L : List RU} (h : ∀ j (hj : j < L.length), f j L[j] = true) : allAt f 0 L = true := by
  rw [allAt_iff]
  intro j hj
  rw [Nat.zero_add]
  exact h j hj
def checkC (L : List RU) : Int := if 64 < L.length then 4 else if allAt (mayB L) 0 L = true then 0 else 140
def checkD (L : List RU) : Int := if 64 < L.length then 4 else if allAt (oneB L) 0 L = true then 0 else 140
theorem pair_joins {L : List RU} {r : RU} {kind : Int} (hk : kind ≠ 0) : pairB L r kind = joinsB L r kind := by
  unfold pairB joinsB
  cases ha : fIdx L r.key with
  | none =>
    rw [ruleR_none ha, show zR.k = 0 from rfl, decide_eq_false (fun e => hk e.symm), Bool.false_and, Bool.and_false]
  | some a =>
    obtain ⟨hal, ha1, _⟩ := fIdx_some.1 ha
    cases hb : fIdx L r.other with
    | none =>
      rw [ruleR_none hb, show zR.k = 0 from rfl, decide_eq_false (p := (0 : Int) = kind) (fun e => hk e.symm), Bool.and_false, Bool.and_false]
    | some b =>
      obtain ⟨hbl, hb1, _⟩ := fIdx_some.1 hb
      rw [ruleR_some ha hal, ruleR_some hb hbl]
      simp only [List.getD_eq_getElem?_getD, List.getElem?_eq_getElem hal, List.getElem?_eq_getElem hbl, Option.getD_some]
      have hab : (a = b) ↔ r.key = r.other := by
        constructor
        · intro e
          subst e
          rw [← (isF_key ha1).1, ← (isF_key hb1).1]
        · intro e
          rw [e, hb] at ha
          injection ha with ha
          exact ha.symm
      have e : decide (a ≠ b) = !(eqS r.key r.other) := by
        rw [eqS_dec]
        by_cases h : a = b
        · rw [decide_eq_false (fun c => c h), decide_eq_true (hab.1 h)]; rfl
        · rw [decide_eq_true h, decide_eq_false (fun c => h (hab.2 c))]; rfl
      rw [e, Bool.and_assoc]
theorem joins_facts {L : List RU} {r : RU} {kind : Int} (hk : kind ≠ 0) (h : joinsB L r kind = true) : r.key ≠ r.other ∧ (∃ (a : Nat) (ha : a < L.length), fIdx L r.key = some a ∧ ruleR L r.key = L[a] ∧ L[a].key = r.key ∧ L[a].k = kind) ∧ (∃ (b : Nat) (hb : b < L.length), fIdx L r.other = some b ∧ ruleR L r.other = L[b] ∧ L[b].key = r.other ∧ L[b].k = kind) := by
  unfold joinsB at h
  rw [Bool.and_eq_true, Bool.and_eq_true, decide_eq_true_eq, decide_eq_true_eq, eqS_dec] at h
  obtain ⟨h1, h2, h3⟩ := h
  refine ⟨by simpa using h1, ?_, ?_⟩
  · obtain ⟨a, ha, hf, hr, hi⟩ := ruleR_kind (L := L) (key := r.key) (Or.inr (by rw [h2]; exact hk))
    exact ⟨a, ha, hf, hr, (isF_key hi).1, by rw [← hr, h2]⟩
  · obtain ⟨a, ha, hf, hr, hi⟩ := ruleR_kind (L := L) (key := r.other) (Or.inr (by rw [h3]; exact hk))
    exact ⟨a, ha, hf, hr, (isF_key hi).1, by rw [← hr, h3]⟩
end Go.Proofs.YtioldhhnkeakcaaDoor
