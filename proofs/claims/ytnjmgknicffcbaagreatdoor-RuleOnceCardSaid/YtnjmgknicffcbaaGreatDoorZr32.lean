/- Plain mathematics of the texts of vectors: numerals, words between points. No program in it. Plain mathematics of wholes: numerals with a sign. No program in it. Mathematics of catalogues: which rules may be, the program's way of asking and the document's. -/
import Derived.Lib.ItoaNum
import Derived.Lib.ParseIntBCases
import Derived.Lib.ItoaMem
import Derived.Lib.ItoaLen
import Derived.Test.YtnjmgknicffcbaaGreatDoorZr31
import Derived.Test.YtnjmgknicffcbaaGreatDoorZr03
namespace Go.Proofs.YtnjmgknicffcbaaGreatDoor.PV

def isDig (c : UInt8) : Prop := 48 ≤ c.toNat ∧ c.toNat ≤ 57
/-- What digits spell, behind acc. -/
def val (acc : Nat) (l : List UInt8) : Nat := l.foldl (fun n c => n * 10 + (c.toNat - 48)) acc
theorem val_cons (acc : Nat) (c : UInt8) (l : List UInt8) : val acc (c :: l) = val (acc * 10 + (c.toNat - 48)) l := by simp only [val, List.foldl_cons]
theorem val_snoc (acc : Nat) (l : List UInt8) (c : UInt8) : val acc (l ++ [c]) = val acc l * 10 + (c.toNat - 48) := by
  simp [val, List.foldl_append]
theorem val_ge : ∀ (l : List UInt8) (acc : Nat), acc ≤ val acc l
  | [], _ => Nat.le_refl _
  | c :: l, acc => by
    rw [val_cons]
    exact Nat.le_trans (by omega) (val_ge l _)
theorem parse_of : ∀ (l : List UInt8) (acc : Nat), (∀ c ∈ l, isDig c) → val acc l < 18446744073709551616 → Lib.parseUint10 acc l = .ok (val acc l)
  | [], _, _, _ => rfl
  | c :: r, acc, hd, hv => by
    have hc : 48 ≤ c.toNat ∧ c.toNat ≤ 57 := hd c (by simp)
    rw [val_cons] at hv ⊢
    have hg := val_ge r (acc * 10 + (c.toNat - 48))
    simp only [Lib.parseUint10]
    rw [if_pos hc, if_neg (by omega), if_neg (by omega)]
    exact parse_of r _ (fun x hx => hd x (by simp [hx])) hv

theorem decDigits_big {n : Nat} (h : ¬ n < 10) : Lib.decDigits n = Lib.decDigits (n / 10) ++ [UInt8.ofNat (48 + n % 10)] := by rw [Lib.decDigits, dif_neg h]
theorem dec_facts (n : Nat) : (∀ c ∈ Lib.decDigits n, isDig c) ∧ val 0 (Lib.decDigits n) = n ∧ Lib.decDigits n ≠ [] ∧ (1 ≤ n → (Lib.decDigits n).headD 0 ≠ 48) ∧ (n = 0 → (Lib.decDigits n).length = 1) := by
  induction n using Nat.strongRecOn with
  | ind n ih =>
    by_cases h : n < 10
    · rw [Lib.decDigits_one h]
      have e : (UInt8.ofNat (48 + n)).toNat = 48 + n := by rw [UInt8.toNat_ofNat']; omega
      refine ⟨fun c hc => ?_, ?_, by simp, fun h1 => ?_, fun _ => rfl⟩
      · obtain rfl := List.mem_singleton.1 hc
        unfold isDig; omega
      · simp only [val, List.foldl]; omega
      · intro e2
        have := congrArg UInt8.toNat e2
        simp only [List.headD_cons] at this
        rw [e] at this
        have : (48 : UInt8).toNat = 48 := rfl
        omega
    · obtain ⟨i1, i2, i3, i4, i5⟩ := ih (n / 10) (by omega)
      rw [decDigits_big h]
      have e : (UInt8.ofNat (48 + n % 10)).toNat = 48 + n % 10 := by rw [UInt8.toNat_ofNat']; omega
      refine ⟨fun c hc => ?_, ?_, by simp, fun _ => ?_, fun h0 => by omega⟩
      · rcases List.mem_append.1 hc with hc | hc
        · exact i1 c hc
        · obtain rfl := List.mem_singleton.1 hc
          unfold isDig; omega
      · rw [val_snoc, i2, e]; omega
      · have := i4 (by omega)
        cases hx : Lib.decDigits (n / 10) with
        | nil => exact absurd hx i3
        | cons x xs => rw [hx] at this; simpa using this
end Go.Proofs.YtnjmgknicffcbaaGreatDoor.PV
namespace Go.Proofs.YtnjmgknicffcbaaGreatDoor.PV

theorem dec_inj {m n : Nat} (h : Lib.decDigits m = Lib.decDigits n) : m = n := by
  rw [← (dec_facts m).2.1, h, (dec_facts n).2.1]
theorem dec_ne45 {n : Nat} {c : UInt8} (h : c ∈ Lib.decDigits n) : c.toNat ≠ 45 ∧ c.toNat ≠ 43 := by
  have := (dec_facts n).1 c h
  unfold isDig at this
  omega
theorem itoa_pos {n : Int} (h : 0 ≤ n) : Lib.itoa n = Lib.decDigits n.toNat := by unfold Lib.itoa; rw [if_neg (by omega)]
theorem itoa_minus {n : Int} (h : n < 0) : Lib.itoa n = 45 :: Lib.decDigits n.natAbs := by unfold Lib.itoa; rw [if_pos h]
theorem dec_cons (n : Nat) : ∃ c r, Lib.decDigits n = c :: r ∧ c.toNat ≠ 45 ∧ c.toNat ≠ 43 := by
  cases h : Lib.decDigits n with
  | nil => exact absurd h (dec_facts n).2.2.1
  | cons c r => exact ⟨c, r, rfl, dec_ne45 (by rw [h]; simp)⟩
theorem itoa_inj {m n : Int} (h : Lib.itoa m = Lib.itoa n) : m = n := by
  by_cases hm : m < 0 <;> by_cases hn : n < 0
  · rw [itoa_minus hm, itoa_minus hn] at h
    have := dec_inj (List.cons.inj h).2
    omega
  · exfalso
    rw [itoa_minus hm, itoa_pos (by omega)] at h
    obtain ⟨c, r, e, h1, _⟩ := dec_cons n.toNat
    rw [e] at h
    exact h1 (by rw [← (List.cons.inj h).1]; rfl)
  · exfalso
    rw [itoa_minus hn, itoa_pos (by omega)] at h
    obtain ⟨c, r, e, h1, _⟩ := dec_cons m.toNat
    rw [e] at h
    exact h1 (by rw [(List.cons.inj h).1]; rfl)
  · rw [itoa_pos (by omega), itoa_pos (by omega)] at h
    have := dec_inj h
    omega
theorem parse_dec {u : Nat} (h : u < 18446744073709551616) : Lib.parseUintB 64 (Lib.decDigits u) = .ok u := by
  obtain ⟨h1, h2, h3, _⟩ := dec_facts u
  rw [Lib.parseUintB_64]
  unfold Lib.parseMag
  rw [if_neg h3, parse_of _ 0 h1 (by rw [h2]; exact h), h2]
theorem parse_itoa {n : Int} (h0 : -9223372036854775808 ≤ n) (h1 : n < 9223372036854775808) : Lib.parseIntB 64 (Lib.itoa n) = .ok n := by
  by_cases hn : n < 0
  · rw [itoa_minus hn, Lib.parseIntB_minus, parse_dec (by omega)]
    have e : (2 : Nat) ^ (64 - 1) = 9223372036854775808 := by decide
    simp only [Lib.signedC, e]
    rw [if_neg (by omega)]
    congr 1
    omega
  · rw [itoa_pos (by omega)]
    have hp := parse_dec (u := n.toNat) (by omega)
    obtain ⟨c, r, e, c1, c2⟩ := dec_cons n.toNat
    rw [e] at hp ⊢
    rw [Lib.parseIntB_plain _ _ _ c2 c1, hp]
    have e : (2 : Nat) ^ (64 - 1) = 9223372036854775808 := by decide
    simp only [Lib.signlessC, e]
    rw [if_neg (by omega)]
    congr 1
    omega

def inA (n : Int) : Prop := -1099511627776 ≤ n ∧ n ≤ 1099511627776
open Classical in
/-- The number of a word that is a whole. -/
noncomputable def wholeL (l : List UInt8) : Option Int := if h : ∃ n : Int, inA n ∧ Lib.itoa n = l then some h.choose else none
theorem wholeL_itoa {n : Int} (h : inA n) : wholeL (Lib.itoa n) = some n := by
  have hx : ∃ m : Int, inA m ∧ Lib.itoa m = Lib.itoa n := ⟨n, h, rfl⟩
  unfold wholeL
  rw [dif_pos hx]
  exact congrArg some (itoa_inj hx.choose_spec.2)
theorem wholeL_none {l : List UInt8} (h : ∀ n, inA n → Lib.itoa n ≠ l) : wholeL l = none := by
  unfold wholeL
  rw [dif_neg (fun ⟨n, h1, h2⟩ => h n h1 h2)]
/-- By what ParseInt answers. -/
theorem wholeL_ok {l : List UInt8} {v : Int} (h : Lib.parseIntB 64 l = .ok v) (h2 : ¬ (inA v ∧ Lib.itoa v = l)) : wholeL l = none :=
  wholeL_none fun n hn e => by
    have := parse_itoa (n := n) (by unfold inA at hn; omega) (by unfold inA at hn; omega)
    rw [e, h] at this
    injection this with this
    subst this
    exact h2 ⟨hn, e⟩
theorem wholeL_bad {l : List UInt8} (h : ∀ v, Lib.parseIntB 64 l ≠ .ok v) : wholeL l = none :=
  wholeL_none fun n hn e => h n (by rw [← e]; exact parse_itoa (by unfold inA at hn; omega) (by unfold inA at hn; omega))
theorem dec_len {n : Nat} (h : n ≤ 1099511627776) : (Lib.decDigits n).length ≤ 13 := by
  rw [Lib.decDigits_length]
  have := Lib.nDigits_pos n
  by_cases hq : Lib.nDigits n ≤ 13
  · exact hq
  · exfalso
    have key : ∀ (k u : Nat), u < 10 ^ k → 1 ≤ k → Lib.nDigits u ≤ k := by
      intro k
      induction k with
      | zero => intro u _ h; omega
      | succ k ih =>
        intro u hu _
        by_cases h10 : u < 10
        · rw [Lib.nDigits_small h10]; omega
        · rw [Lib.nDigits_big h10]
          have hk : 1 ≤ k := by
            by_cases hk : k = 0
            · subst hk; simp at hu; omega
            · omega
          have := ih (u / 10) (by rw [Nat.pow_succ] at hu; omega) hk
          omega
    have := key 13 n (by omega) (by decide)
    omega
theorem itoa_len {n : Int} (h : inA n) : (Lib.itoa n).length ≤ 14 := by
  unfold inA at h
  by_cases hn : n < 0
  · rw [itoa_minus hn]
    have := dec_len (n := n.natAbs) (by omega)
    simp only [List.length_cons]; omega
  · rw [itoa_pos (by omega)]
    have := dec_len (n := n.toNat) (by omega)
    omega
theorem wholeL_long {l : List UInt8} (h : 14 < l.length) : wholeL l = none :=
  wholeL_none fun n hn e => by
    have := itoa_len hn
    rw [e] at this
    omega
end Go.Proofs.YtnjmgknicffcbaaGreatDoor.PV
namespace Go.Proofs.YtnjmgknicffcbaaGreatDoor
open Go.RowKit
set_option linter.unusedSimpArgs false
set_option linter.unusedVariables false

def knB (k : Int) : Bool := decide (1 ≤ k) && decide (k ≤ 8)
/-- Is it a rule of the key? -/
def isF (key : ByteArray) (r : RU) : Bool := knB r.k && eqS r.key key
def fIdx (L : List RU) (key : ByteArray) : Option Nat := L.findIdx? (isF key)
def fInt (L : List RU) (key : ByteArray) : Int := match fIdx L key with
  | some j => (j : Int)
  | none => -1
def zR : RU := ⟨0, ⟨#[]⟩, ⟨#[]⟩, 0, 0⟩
/-- The rule that is found; one of no kind, if there is none. -/
def ruleR (L : List RU) (key : ByteArray) : RU := match fIdx L key with
  | some j => L.getD j zR
  | none => zR
theorem fIdx_some {L : List RU} {key : ByteArray} {j : Nat} : fIdx L key = some j ↔ ∃ h : j < L.length, isF key L[j] = true ∧ ∀ q (hq : q < L.length), q < j → isF key L[q] = false := by
  unfold fIdx
  rw [List.findIdx?_eq_some_iff_getElem]
  constructor
  · rintro ⟨h, h1, h2⟩
    exact ⟨h, h1, fun q hq hqj => Bool.eq_false_iff.2 (h2 q hqj)⟩
  · rintro ⟨h, h1, h2⟩
    exact ⟨h, h1, fun q hqj => Bool.eq_false_iff.1 (h2 q (by omega) hqj)⟩
theorem fIdx_none {L : List RU} {key : ByteArray} : fIdx L key = none ↔ ∀ r ∈ L, isF key r = false := by
  unfold fIdx
  rw [List.findIdx?_eq_none_iff]
theorem fInt_some {L : List RU} {key : ByteArray} {j : Nat} (h : fIdx L key = some j) : fInt L key = (j : Int) := by unfold fInt; rw [h]
theorem fInt_none {L : List RU} {key : ByteArray} (h : fIdx L key = none) : fInt L key = -1 := by unfold fInt; rw [h]
theorem ruleR_some {L : List RU} {key : ByteArray} {j : Nat} (h : fIdx L key = some j) (hj : j < L.length) : ruleR L key = L[j] := by
  unfold ruleR; rw [h]
  simp only [List.getD_eq_getElem?_getD, List.getElem?_eq_getElem hj, Option.getD_some]
theorem ruleR_none {L : List RU} {key : ByteArray} (h : fIdx L key = none) : ruleR L key = zR := by unfold ruleR; rw [h]
/-- A rule of a kind that is one. -/
theorem ruleR_kind {L : List RU} {key : ByteArray} (h : ruleR L key ≠ zR ∨ (ruleR L key).k ≠ 0) : ∃ (j : Nat) (hj : j < L.length), fIdx L key = some j ∧ ruleR L key = L[j] ∧ isF key L[j] = true := by
  cases hf : fIdx L key with
  | none =>
    rw [ruleR_none hf] at h
    rcases h with h | h
    · exact absurd rfl h
    · exact absurd rfl h
  | some j =>
    obtain ⟨hj, h1, _⟩ := fIdx_some.1 hf
    exact ⟨j, hj, rfl, ruleR_some hf hj, h1⟩
theorem isF_key {key : ByteArray} {r : RU} (h : isF key r = true) : r.key = key ∧ 1 ≤ r.k ∧ r.k ≤ 8 := by
  unfold isF knB at h
  rw [Bool.and_eq_true, Bool.and_eq_true, decide_eq_true_eq, decide_eq_true_eq] at h
  exact ⟨eqS_iff.1 h.2, h.1⟩
theorem isF_of {r : RU} (h1 : 1 ≤ r.k) (h2 : r.k ≤ 8) : isF r.key r = true := by
  unfold isF knB
  rw [decide_eq_true h1, decide_eq_true h2, eqS_self]; rfl

def sKEY : ByteArray := ⟨#[75, 69, 89]⟩
def sOTHER : ByteArray := ⟨#[79, 84, 72, 69, 82]⟩
def sMIN : ByteArray := ⟨#[77, 73, 78]⟩
def sSTART : ByteArray := ⟨#[83, 84, 65, 82, 84]⟩
def wCounter : ByteArray := ⟨#[99, 111, 117, 110, 116, 101, 114]⟩
def wBound : ByteArray := ⟨#[98, 111, 117, 110, 100]⟩
def wSet : ByteArray := ⟨#[115, 101, 116]⟩
def wFirm : ByteArray := ⟨#[102, 105, 114, 109]⟩
def wLast : ByteArray := ⟨#[108, 97, 115, 116]⟩
def wMulti : ByteArray := ⟨#[109, 117, 108, 116, 105]⟩
def wFlag : ByteArray := ⟨#[102, 108, 97, 103]⟩
def wIds : ByteArray := ⟨#[105, 100, 115]⟩
def wRef : ByteArray := ⟨#[114, 101, 102]⟩
def wEither : ByteArray := ⟨#[101, 105, 116, 104, 101, 114]⟩
/-- The names in a kind's line. -/
def names (k : Int) : List ByteArray :=
  if k = 1 then [wCounter, sKEY, sSTART] else if k = 2 then [wBound, sKEY, sMIN, sSTART] else if k = 3 then [wSet, sKEY] else if k = 4 then [wFirm, sKEY]
  else if k = 5 then [wLast, sKEY] else if k = 6 then [wMulti, sKEY] else if k = 7 then [wFlag, sKEY, sSTART] else if k = 8 then [wIds, sKEY]
  else if k = 9 then [wRef, sKEY, sOTHER] else if k = 10 then [wEither, sKEY, sOTHER] else []
def hasW (L : List ByteArray) (s : ByteArray) : Bool := L.any fun x => eqS s x
theorem eqS_dec (x y : ByteArray) : eqS x y = decide (x = y) := by
  by_cases h : x = y
  · rw [decide_eq_true h]; exact eqS_iff.2 h
  · rw [decide_eq_false h]
    exact Bool.eq_false_iff.2 (fun e => h (eqS_iff.1 e))
theorem k_cases {k : Int} (h : 1 ≤ k ∧ k ≤ 10) : k = 1 ∨ k = 2 ∨ k = 3 ∨ k = 4 ∨ k = 5 ∨ k = 6 ∨ k = 7 ∨ k = 8 ∨ k = 9 ∨ k = 10 := by omega
theorem names_out {k : Int} (h : ¬ (1 ≤ k ∧ k ≤ 10)) : names k = [] := by
  unfold names
  rw [if_neg (by omega), if_neg (by omega), if_neg (by omega), if_neg (by omega), if_neg (by omega), if_neg (by omega), if_neg (by omega), if_neg (by omega), if_neg (by omega), if_neg (by omega)]
theorem names_in {k : Int} (h : 1 ≤ k ∧ k ≤ 10) : names k ≠ [] := by
  rcases k_cases h with rfl | rfl | rfl | rfl | rfl | rfl | rfl | rfl | rfl | rfl <;> decide
theorem has_other {k : Int} : hasW (names k) sOTHER = (decide (k = 9) || decide (k = 10)) := by
  by_cases h : 1 ≤ k ∧ k ≤ 10
  · unfold hasW
    simp only [eqS_dec]
    rcases k_cases h with rfl | rfl | rfl | rfl | rfl | rfl | rfl | rfl | rfl | rfl <;> decide
  · rw [names_out h, decide_eq_false (by omega), decide_eq_false (by omega)]; rfl
theorem has_min {k : Int} : hasW (names k) sMIN = decide (k = 2) := by
  by_cases h : 1 ≤ k ∧ k ≤ 10
  · unfold hasW
    simp only [eqS_dec]
    rcases k_cases h with rfl | rfl | rfl | rfl | rfl | rfl | rfl | rfl | rfl | rfl <;> decide
  · rw [names_out h, decide_eq_false (by omega)]; rfl
theorem has_start {k : Int} : hasW (names k) sSTART = (decide (k = 1) || decide (k = 2) || decide (k = 7)) := by
  by_cases h : 1 ≤ k ∧ k ≤ 10
  · unfold hasW
    simp only [eqS_dec]
    rcases k_cases h with rfl | rfl | rfl | rfl | rfl | rfl | rfl | rfl | rfl | rfl <;> decide
  · rw [names_out h, decide_eq_false (by omega), decide_eq_false (by omega), decide_eq_false (by omega)]; rfl
/-- Of a kind, and all fields noughts that the line doesn't name. -/
def namedB (r : RU) : Bool := !(names r.k).isEmpty && (r.other.toList.isEmpty || hasW (names r.k) sOTHER) && (decide (r.min = 0) || hasW (names r.k) sMIN) && (decide (r.start = 0) || hasW (names r.k) sSTART)
theorem named_iff {r : RU} : namedB r = true ↔ (1 ≤ r.k ∧ r.k ≤ 10) ∧ (r.other.toList.isEmpty = true ∨ r.k = 9 ∨ r.k = 10) ∧ (r.min = 0 ∨ r.k = 2) ∧ (r.start = 0 ∨ r.k = 1 ∨ r.k = 2 ∨ r.k = 7) := by
  unfold namedB
  rw [has_other, has_min, has_start]
  by_cases h : 1 ≤ r.k ∧ r.k ≤ 10
  · have hn : (names r.k).isEmpty = false := by
      cases he : names r.k with
      | nil => exact absurd he (names_in h)
      | cons a b => rfl
    rw [hn]
    simp only [Bool.not_false, Bool.true_and, Bool.and_eq_true, Bool.or_eq_true, decide_eq_true_eq]
    constructor
    · rintro ⟨⟨h1, h2⟩, h3⟩
      exact ⟨h, h1, h2, by omega⟩
    · rintro ⟨_, h1, h2, h3⟩
      exact ⟨⟨h1, h2⟩, by omega⟩
  · rw [names_out h]
    simp [h]
def inAB (n : Int) : Bool := decide (-1099511627776 ≤ n) && decide (n ≤ 1099511627776)
theorem inAB_iff {n : Int} : inAB n = true ↔ PV.inA n := by
  unfold inAB PV.inA
  rw [Bool.and_eq_true, decide_eq_true_eq, decide_eq_true_eq]
def joinsB (L : List RU) (r : RU) (kind : Int) : Bool := !(eqS r.key r.other) && (decide ((ruleR L r.key).k = kind) && decide ((ruleR L r.other).k = kind))
def beginsB (r : RU) : Bool := if r.k = 2 then decide (r.min ≤ r.start) else if r.k = 7 then (decide (r.start = 0) || decide (r.start = 1)) else true
/-- May the rule be, at this place? The program's way. -/
def mayB (L : List RU) (i : Nat) (r : RU) : Bool :=
  namedB r && keyS r.key && (inAB r.min && inAB r.start) &&
    (if r.k = 9 then joinsB L r 3 else if r.k = 10 then joinsB L r 7 && (decide ((ruleR L r.key).start = 1) || decide ((ruleR L r.other).start = 1))
     else decide (fInt L r.key = (i : Int)) && beginsB r)
/-- The document's: two unlike keys of a kind. -/
def pairB (L : List RU) (r : RU) (kind : Int) : Bool :=
  match fIdx L r.key, fIdx L r.other with
  | some a, some b => decide (a ≠ b) && decide ((L.getD a zR).k = kind) && decide ((L.getD b zR).k = kind)
  | _, _ => false
def oneB (L : List RU) (i : Nat) (r : RU) : Bool :=
  keyS r.key && (inAB r.min && inAB r.start) &&
    (if r.k = 9 then decide (r.min = 0) && decide (r.start = 0) && pairB L r 3
     else if r.k = 10 then decide (r.min = 0) && decide (r.start = 0) && pairB L r 7 && (decide ((ruleR L r.key).start ≠ 0) || decide ((ruleR L r.other).start ≠ 0))
     else knB r.k && r.other.toList.isEmpty && decide (fInt L r.key = (i : Int)) &&
       (if r.k = 1 then decide (r.min = 0) else if r.k = 2 then decide (r.min ≤ r.start) else if r.k = 7 then decide (r.min = 0) && (decide (r.start = 0) || decide (r.start = 1)) else decide (r.min = 0) && decide (r.start = 0)))
def allAt (f : Nat → RU → Bool) : Nat → List RU → Bool
  | _, [] => true
  | i, r :: L => f i r && allAt f (i + 1) L
theorem allAt_iff {f : Nat → RU → Bool} : ∀ {L : List RU} {i : Nat}, allAt f i L = true ↔ ∀ j (hj : j < L.length), f (i + j) L[j] = true
  | [], i => by simp [allAt]
  | r :: L, i => by
    simp only [allAt, Bool.and_eq_true]
    rw [allAt_iff]
    constructor
    · rintro ⟨h1, h2⟩ j hj
      cases j with
      | zero => exact h1
      | succ j =>
        have := h2 j (by simpa using hj)
        rw [show i + 1 + j = i + (j + 1) from by omega] at this
        simpa using this
    · intro h
      refine ⟨h 0 (by simp), fun j hj => ?_⟩
      have := h (j + 1) (by simpa using hj)
      rw [show i + (j + 1) = i + 1 + j from by omega] at this
      simpa using this
theorem allAt_bad {f : Nat → RU → Bool} {L : List RU} {j : Nat} (hj : j < L.length) (h : f j L[j] = false) : allAt f 0 L = false := by
  rw [← Bool.not_eq_true, allAt_iff]
  intro e
  have := e j hj
  rw [Nat.zero_add, h] at this
  cases this
theorem allAt_good {f : Nat → RU → Bool} {L : List RU} (h : ∀ j (hj : j < L.length), f j L[j] = true) : allAt f 0 L = true := by
  rw [allAt_iff]
  intro j hj
  rw [Nat.zero_add]
  exact h j hj
def checkC (L : List RU) : Int := if 64 < L.length then 4 else if allAt (mayB L) 0 L = true then 0 else 140
def checkD (L : List RU) : Int := if 64 < L.length then 4 else if allAt (oneB L) 0 L = true then 0 else 140
theorem pair_joins {L : List RU} {r : RU} {kind : Int} (hk : kind ≠ 0) : pairB L r kind = joinsB L r kind := by
  unfold pairB joinsB
  cases ha : fIdx L r.key with
  | none =>
    rw [ruleR_none ha, show zR.k = 0 from rfl, decide_eq_false (fun e => hk e.symm), Bool.false_and, Bool.and_false]
  | some a =>
    obtain ⟨hal, ha1, _⟩ := fIdx_some.1 ha
    cases hb : fIdx L r.other with
    | none =>
      rw [ruleR_none hb, show zR.k = 0 from rfl, decide_eq_false (p := (0 : Int) = kind) (fun e => hk e.symm), Bool.and_false, Bool.and_false]
    | some b =>
      obtain ⟨hbl, hb1, _⟩ := fIdx_some.1 hb
      rw [ruleR_some ha hal, ruleR_some hb hbl]
      simp only [List.getD_eq_getElem?_getD, List.getElem?_eq_getElem hal, List.getElem?_eq_getElem hbl, Option.getD_some]
      have hab : (a = b) ↔ r.key = r.other := by
        constructor
        · intro e
          subst e
          rw [← (isF_key ha1).1, ← (isF_key hb1).1]
        · intro e
          rw [e, hb] at ha
          injection ha with ha
          exact ha.symm
      have e : decide (a ≠ b) = !(eqS r.key r.other) := by
        rw [eqS_dec]
        by_cases h : a = b
        · rw [decide_eq_false (fun c => c h), decide_eq_true (hab.1 h)]; rfl
        · rw [decide_eq_true h, decide_eq_false (fun c => h (hab.2 c))]; rfl
      rw [e, Bool.and_assoc]
theorem joins_facts {L : List RU} {r : RU} {kind : Int} (hk : kind ≠ 0) (h : joinsB L r kind = true) : r.key ≠ r.other ∧ (∃ (a : Nat) (ha : a < L.length), fIdx L r.key = some a ∧ ruleR L r.key = L[a] ∧ L[a].key = r.key ∧ L[a].k = kind) ∧ (∃ (b : Nat) (hb : b < L.length), fIdx L r.other = some b ∧ ruleR L r.other = L[b] ∧ L[b].key = r.other ∧ L[b].k = kind) := by
  unfold joinsB at h
  rw [Bool.and_eq_true, Bool.and_eq_true, decide_eq_true_eq, decide_eq_true_eq, eqS_dec] at h
  obtain ⟨h1, h2, h3⟩ := h
  refine ⟨by simpa using h1, ?_, ?_⟩
  · obtain ⟨a, ha, hf, hr, hi⟩ := ruleR_kind (L := L) (key := r.key) (Or.inr (by rw [h2]; exact hk))
    exact ⟨a, ha, hf, hr, (isF_key hi).1, by rw [← hr, h2]⟩
  · obtain ⟨a, ha, hf, hr, hi⟩ := ruleR_kind (L := L) (key := r.other) (Or.inr (by rw [h3]; exact hk))
    exact ⟨a, ha, hf, hr, (isF_key hi).1, by rw [← hr, h3]⟩
end Go.Proofs.YtnjmgknicffcbaaGreatDoor
