/- Walks: which keys, members' words, operations may be: the program's and the document's. Mathematics of catalogues: which rules may be, the program's way of asking and the document's. -/
import Derived.Test.YtnjmgknicffcbaaGreatDoorZb06
import Derived.Test.YtnjmgknicffcbaaGreatDoorZb05
namespace Go.Proofs.YtnjmgknicffcbaaGreatDoor
open Go.RowKit

/-- A letter of a key. -/
def keyC (c : Nat) : Bool := decide ((97 ≤ c ∧ c ≤ 122) ∨ (48 ≤ c ∧ c ≤ 57) ∨ c = 47)
def keyS (p : ByteArray) : Bool := decide (1 ≤ p.size ∧ p.size ≤ 32) && p.data.toList.all fun c => keyC c.toNat
theorem keyS_short {p : ByteArray} (h : ¬ (1 ≤ p.size ∧ p.size ≤ 32)) : keyS p = false := by
  unfold keyS
  rw [decide_eq_false h]; rfl
theorem keyS_bad {p : ByteArray} {k : Nat} (hk : k < p.size) (h : keyC (p[k]).toNat = false) : keyS p = false := by
  unfold keyS
  have : (p.data.toList.all fun c => keyC c.toNat) = false := by
    rw [List.all_eq_false]
    exact ⟨p[k], by rw [ByteArray.getElem_eq_getElem_data]; exact Array.mem_toList_iff.2 (Array.getElem_mem _), by rw [h]; simp⟩
  rw [this, Bool.and_false]
theorem keyS_good {p : ByteArray} (h1 : 1 ≤ p.size ∧ p.size ≤ 32) (h : ∀ k (hk : k < p.size), keyC (p[k]).toNat = true) : keyS p = true := by
  unfold keyS
  rw [decide_eq_true h1, Bool.true_and, List.all_eq_true]
  intro c hc
  obtain ⟨i, hi, rfl⟩ := Array.mem_iff_getElem.1 (Array.mem_toList_iff.1 hc)
  exact h i hi
theorem keyS_size {p : ByteArray} (h : keyS p = true) : 1 ≤ p.size ∧ p.size ≤ 32 := by
  unfold keyS at h
  rw [Bool.and_eq_true] at h
  exact of_decide_eq_true h.1
theorem keyC_no {c : Nat} (h : keyC c = false) : ¬ ((97 ≤ c ∧ c ≤ 122) ∨ (48 ≤ c ∧ c ≤ 57) ∨ c = 47) := of_decide_eq_false h
theorem keyC_yes {c : Nat} (h : keyC c = true) : (97 ≤ c ∧ c ≤ 122) ∨ (48 ≤ c ∧ c ≤ 57) ∨ c = 47 := of_decide_eq_true h
theorem toList_nil_iff {x : ByteArray} : x.toList = [] ↔ x.size = 0 := by
  rw [ByteArray.toList_eq, List.eq_nil_iff_length_eq_zero, Array.length_toList]
  rfl
theorem toList_nil {x : ByteArray} (h : x.size = 0) : x.toList = [] := toList_nil_iff.2 h
theorem toList_some {x : ByteArray} (h : ¬ x.size = 0) : x.toList.isEmpty = false := by
  cases hq : x.toList with
  | nil => exact absurd (toList_nil_iff.1 hq) h
  | cons a b => rfl

set_option maxRecDepth 100000 in
theorem keyByte_any (c : Nat) (hc : c < 256) (w : World) :
    Calls Tryz.prog 161 #[.int .u8 (c : Int)] w fun e w' => e = .returned (.bool (keyC c)) ∧ w = w' := by
  rcases hq : keyC c with _ | _
  · have hn := keyC_no hq
    clear hq
    have t : ((c : Int) == 47) = false := int_beq_f (by omega)
    go_enter Tryz.func161, Tryz.ntmps161
    go_wp2_with fail
    all_goals first | (exfalso; omega) | skip
    all_goals go_ret
    all_goals first | (refine ⟨?_, rfl⟩; simp; omega) | exact ⟨rfl, rfl⟩
  · have hy := keyC_yes hq
    clear hq
    by_cases h1 : 97 ≤ c
    · have h2 : c ≤ 122 := by omega
      have e1 : decide ((97 : Int) ≤ (c : Int)) = true := decide_eq_true (by omega)
      have e2 : decide ((c : Int) ≤ 122) = true := decide_eq_true (by omega)
      clear hy
      go_enter Tryz.func161, Tryz.ntmps161
      go_wp2_with fail
      all_goals first | (exfalso; omega) | skip
      all_goals go_ret
      all_goals exact ⟨rfl, rfl⟩
    · by_cases h3 : 48 ≤ c
      · have h4 : c ≤ 57 := by omega
        have e2 : decide ((c : Int) ≤ 57) = true := decide_eq_true (by omega)
        clear hy
        go_enter Tryz.func161, Tryz.ntmps161
        go_wp2_with fail
        all_goals first | (exfalso; omega) | skip
        all_goals go_ret
        all_goals exact ⟨rfl, rfl⟩
      · obtain rfl : c = 47 := by omega
        clear hy h1 h3
        go_enter Tryz.func161, Tryz.ntmps161
        go_wp2_with fail
        all_goals go_ret
        all_goals exact ⟨rfl, rfl⟩
set_option maxRecDepth 100000 in
theorem key8_any (s : ByteArray) (hs : s.size ≤ 9223372036854775807) (w : World) :
    Calls Tryz.prog 135 #[.string s] w fun e w' => e = .returned (.bool (keyS s)) ∧ w = w' := by
  by_cases h0 : s.size = 0
  · have he : s.toList = [] := toList_nil h0
    have HF := Lib.hid (keyS_short (p := s) (by omega))
    clear h0
    go_enter Tryz.func135, Tryz.ntmps135
    go_wp2_with fail
    go_ret
    exact ⟨by rw [HF.out]; rfl, rfl⟩
  have he : s.toList.isEmpty = false := toList_some h0
  by_cases h32 : 32 < s.size
  · have HF := Lib.hid (keyS_short (p := s) (by omega))
    go_enter Tryz.func135, Tryz.ntmps135
    go_wp2_with fail
    go_ret
    exact ⟨by rw [HF.out]; rfl, rfl⟩
  go_enter Tryz.func135, Tryz.ntmps135
  go_wp2_with fail
  go_loopw [13] (fun i wr => wr = w ∧ ∃ k : Nat, k ≤ s.size ∧ i = .int .i64 k ∧ Hid (∀ j (hj : j < s.size), j < k → keyC (s[j]).toNat = true)) (fun i _ => s.size - (intOf i).toNat)
  case atStart => exact ⟨rfl, 0, Nat.zero_le _, rfl, fun j _ h => absurd h (Nat.not_lt_zero _)⟩
  case round =>
    obtain ⟨rfl, k, hk, rfl, hall⟩ := hrel
    by_cases hlt : k < s.size
    · have hb : (s[k]).toNat < 256 := UInt8.toNat_lt _
      have h1 := keyByte_any (s[k]).toNat hb wr
      rcases hq : keyC (s[k]).toNat with _ | _
      · rw [hq] at h1
        have HF := Lib.hid (keyS_bad hlt hq)
        have H1 := Lib.hid h1
        clear hq h1
        go_wp2_with fail
        refine H1.out.mono ?_
        rintro e w1 ⟨rfl, rfl⟩
        go_wp2_with fail
        go_ret
        exact ⟨by rw [HF.out]; rfl, rfl⟩
      · have HA : Hid (∀ j (hj : j < s.size), j < k + 1 → keyC (s[j]).toNat = true) := by
          intro j hj hjk
          by_cases e : j = k
          · subst e; exact hq
          · exact hall j hj (by omega)
        rw [hq] at h1
        have H1 := Lib.hid h1
        clear hq h1
        go_wp2_with fail
        refine H1.out.mono ?_
        rintro e w1 ⟨rfl, rfl⟩
        go_wp2_with fail
        go_roundw
        case rel => exact ⟨by trivial, k + 1, by omega, by go_num, HA⟩
        case measure => simp [intOf]; omega
    · have HF := Lib.hid (keyS_good (p := s) (by omega) (fun j hj => hall j hj (by omega)))
      go_wp2_with fail
      go_ret
      exact ⟨by rw [HF.out]; rfl, rfl⟩
/-- The number of a member's word, else -1. -/
def memberZ (s : ByteArray) : Int := if h : s.size = 1 then (if 48 ≤ (s[0]'(by omega)).toNat ∧ (s[0]'(by omega)).toNat ≤ 55 then ((s[0]'(by omega)).toNat : Int) - 48 else -1) else -1
theorem member_no {s : ByteArray} (h : ¬ s.size = 1) : memberZ s = -1 := by unfold memberZ; rw [dif_neg h]
theorem member_out {s : ByteArray} (h : 0 < s.size) (hn : ¬ (48 ≤ s[0].toNat ∧ s[0].toNat ≤ 55)) : memberZ s = -1 := by
  unfold memberZ
  split
  · first | rfl | exact if_neg hn
  · rfl
theorem member_in {s : ByteArray} (h : 0 < s.size) (h1 : s.size = 1) (hn : 48 ≤ s[0].toNat ∧ s[0].toNat ≤ 55) : memberZ s = (s[0].toNat : Int) - 48 := by
  unfold memberZ
  rw [dif_pos h1, if_pos hn]
theorem member_range (s : ByteArray) : -1 ≤ memberZ s ∧ memberZ s < 8 := by
  unfold memberZ
  split
  · split <;> omega
  · omega
set_option maxRecDepth 100000 in
theorem member8_any (s : ByteArray) (w : World) :
    Calls Tryz.prog 151 #[.string s] w fun e w' => e = .returned (.int .i64 (memberZ s)) ∧ w = w' := by
  by_cases h1 : s.size = 1
  · have h0 : 0 < s.size := by omega
    have t1 : ((s.size : Int) != 1) = false := int_bne_f (by omega)
    have hb : (s[0]).toNat < 256 := UInt8.toNat_lt _
    by_cases hn : 48 ≤ s[0].toNat ∧ s[0].toNat ≤ 55
    · have HF := Lib.hid (member_in h0 h1 hn)
      have n1 : (48 : Int) ≤ (s[0].toNat : Int) := by omega
      have n2 : (s[0].toNat : Int) < 56 := by omega
      have h0' : (0 : Int) < (s.size : Int) := by omega
      clear hn h1
      go_enter Tryz.func151, Tryz.ntmps151
      go_wp2_with fail
      all_goals first | (exfalso; omega) | skip
      all_goals go_ret
      all_goals exact ⟨by rw [HF.out]; rfl, rfl⟩
    · have HF := Lib.hid (member_out h0 hn)
      have h0' : (0 : Int) < (s.size : Int) := by omega
      clear h1
      go_enter Tryz.func151, Tryz.ntmps151
      go_wp2_with fail
      all_goals first | (exfalso; omega) | skip
      all_goals go_ret
      all_goals exact ⟨by rw [HF.out]; rfl, rfl⟩
  · have t1 : ((s.size : Int) != 1) = true := int_bne_t (by omega)
    have HF := Lib.hid (member_no h1)
    clear h1
    go_enter Tryz.func151, Tryz.ntmps151
    go_wp2_with fail
    go_ret
    exact ⟨by rw [HF.out]; rfl, rfl⟩
def amtB (n : Int) : Bool := decide (1 ≤ n ∧ n ≤ 1099511627776)
set_option maxRecDepth 100000 in
theorem amount_any (n : Int) (w : World) :
    Calls Tryz.prog 150 #[.int .i64 n] w fun e w' => e = .returned (.bool (amtB n)) ∧ w = w' := by
  by_cases h1 : 1 ≤ n
  · have e1 : decide (1 ≤ n) = true := decide_eq_true h1
    by_cases h2 : n ≤ 1099511627776
    · have e2 : decide (n ≤ 1099511627776) = true := decide_eq_true h2
      have HF := Lib.hid (show amtB n = true from decide_eq_true ⟨h1, h2⟩)
      go_enter Tryz.func150, Tryz.ntmps150
      go_wp2_with fail
      go_ret
      exact ⟨by rw [HF.out]; rfl, rfl⟩
    · have e2 : decide (n ≤ 1099511627776) = false := decide_eq_false h2
      have HF := Lib.hid (show amtB n = false from decide_eq_false (fun h => h2 h.2))
      go_enter Tryz.func150, Tryz.ntmps150
      go_wp2_with fail
      go_ret
      exact ⟨by rw [HF.out]; rfl, rfl⟩
  · have e1 : decide (1 ≤ n) = false := decide_eq_false h1
    have HF := Lib.hid (show amtB n = false from decide_eq_false (fun h => h1 h.1))
    go_enter Tryz.func150, Tryz.ntmps150
    go_wp2_with fail
    go_ret
    exact ⟨by rw [HF.out]; rfl, rfl⟩
end Go.Proofs.YtnjmgknicffcbaaGreatDoor
namespace Go.Proofs.YtnjmgknicffcbaaGreatDoor
open Go.RowKit
set_option linter.unusedSimpArgs false
set_option linter.unusedVariables false

def knB (k : Int) : Bool := decide (1 ≤ k) && decide (k ≤ 8)
/-- Is it a rule of the key? -/
def isF (key : ByteArray) (r : RU) : Bool := knB r.k && eqS r.key key
def fIdx (L : List RU) (key : ByteArray) : Option Nat := L.findIdx? (isF key)
def fInt (L : List RU) (key : ByteArray) : Int := match fIdx L key with
  | some j => (j : Int)
  | none => -1
def zR : RU := ⟨0, ⟨#[]⟩, ⟨#[]⟩, 0, 0⟩
/-- The rule that is found; one of no kind, if there is none. -/
def ruleR (L : List RU) (key : ByteArray) : RU := match fIdx L key with
  | some j => L.getD j zR
  | none => zR
theorem fIdx_some {L : List RU} {key : ByteArray} {j : Nat} : fIdx L key = some j ↔ ∃ h : j < L.length, isF key L[j] = true ∧ ∀ q (hq : q < L.length), q < j → isF key L[q] = false := by
  unfold fIdx
  rw [List.findIdx?_eq_some_iff_getElem]
  constructor
  · rintro ⟨h, h1, h2⟩
    exact ⟨h, h1, fun q hq hqj => Bool.eq_false_iff.2 (h2 q hqj)⟩
  · rintro ⟨h, h1, h2⟩
    exact ⟨h, h1, fun q hqj => Bool.eq_false_iff.1 (h2 q (by omega) hqj)⟩
theorem fIdx_none {L : List RU} {key : ByteArray} : fIdx L key = none ↔ ∀ r ∈ L, isF key r = false := by
  unfold fIdx
  rw [List.findIdx?_eq_none_iff]
theorem fInt_some {L : List RU} {key : ByteArray} {j : Nat} (h : fIdx L key = some j) : fInt L key = (j : Int) := by unfold fInt; rw [h]
theorem fInt_none {L : List RU} {key : ByteArray} (h : fIdx L key = none) : fInt L key = -1 := by unfold fInt; rw [h]
theorem ruleR_some {L : List RU} {key : ByteArray} {j : Nat} (h : fIdx L key = some j) (hj : j < L.length) : ruleR L key = L[j] := by
  unfold ruleR; rw [h]
  simp only [List.getD_eq_getElem?_getD, List.getElem?_eq_getElem hj, Option.getD_some]
theorem ruleR_none {L : List RU} {key : ByteArray} (h : fIdx L key = none) : ruleR L key = zR := by unfold ruleR; rw [h]
/-- A rule of a kind that is one. -/
theorem ruleR_kind {L : List RU} {key : ByteArray} (h : ruleR L key ≠ zR ∨ (ruleR L key).k ≠ 0) : ∃ (j : Nat) (hj : j < L.length), fIdx L key = some j ∧ ruleR L key = L[j] ∧ isF key L[j] = true := by
  cases hf : fIdx L key with
  | none =>
    rw [ruleR_none hf] at h
    rcases h with h | h
    · exact absurd rfl h
    · exact absurd rfl h
  | some j =>
    obtain ⟨hj, h1, _⟩ := fIdx_some.1 hf
    exact ⟨j, hj, rfl, ruleR_some hf hj, h1⟩
theorem isF_key {key : ByteArray} {r : RU} (h : isF key r = true) : r.key = key ∧ 1 ≤ r.k ∧ r.k ≤ 8 := by
  unfold isF knB at h
  rw [Bool.and_eq_true, Bool.and_eq_true, decide_eq_true_eq, decide_eq_true_eq] at h
  exact ⟨eqS_iff.1 h.2, h.1⟩
theorem isF_of {r : RU} (h1 : 1 ≤ r.k) (h2 : r.k ≤ 8) : isF r.key r = true := by
  unfold isF knB
  rw [decide_eq_true h1, decide_eq_true h2, eqS_self]; rfl

def sKEY : ByteArray := ⟨#[75, 69, 89]⟩
def sOTHER : ByteArray := ⟨#[79, 84, 72, 69, 82]⟩
def sMIN : ByteArray := ⟨#[77, 73, 78]⟩
def sSTART : ByteArray := ⟨#[83, 84, 65, 82, 84]⟩
def wCounter : ByteArray := ⟨#[99, 111, 117, 110, 116, 101, 114]⟩
def wBound : ByteArray := ⟨#[98, 111, 117, 110, 100]⟩
def wSet : ByteArray := ⟨#[115, 101, 116]⟩
def wFirm : ByteArray := ⟨#[102, 105, 114, 109]⟩
def wLast : ByteArray := ⟨#[108, 97, 115, 116]⟩
def wMulti : ByteArray := ⟨#[109, 117, 108, 116, 105]⟩
def wFlag : ByteArray := ⟨#[102, 108, 97, 103]⟩
def wIds : ByteArray := ⟨#[105, 100, 115]⟩
def wRef : ByteArray := ⟨#[114, 101, 102]⟩
def wEither : ByteArray := ⟨#[101, 105, 116, 104, 101, 114]⟩
/-- The names in a kind's line. -/
def names (k : Int) : List ByteArray :=
  if k = 1 then [wCounter, sKEY, sSTART] else if k = 2 then [wBound, sKEY, sMIN, sSTART] else if k = 3 then [wSet, sKEY] else if k = 4 then [wFirm, sKEY]
  else if k = 5 then [wLast, sKEY] else if k = 6 then [wMulti, sKEY] else if k = 7 then [wFlag, sKEY, sSTART] else if k = 8 then [wIds, sKEY]
  else if k = 9 then [wRef, sKEY, sOTHER] else if k = 10 then [wEither, sKEY, sOTHER] else []
def hasW (L : List ByteArray) (s : ByteArray) : Bool := L.any fun x => eqS s x
theorem eqS_dec (x y : ByteArray) : eqS x y = decide (x = y) := by
  by_cases h : x = y
  · rw [decide_eq_true h]; exact eqS_iff.2 h
  · rw [decide_eq_false h]
    exact Bool.eq_false_iff.2 (fun e => h (eqS_iff.1 e))
theorem k_cases {k : Int} (h : 1 ≤ k ∧ k ≤ 10) : k = 1 ∨ k = 2 ∨ k = 3 ∨ k = 4 ∨ k = 5 ∨ k = 6 ∨ k = 7 ∨ k = 8 ∨ k = 9 ∨ k = 10 := by omega
theorem names_out {k : Int} (h : ¬ (1 ≤ k ∧ k ≤ 10)) : names k = [] := by
  unfold names
  rw [if_neg (by omega), if_neg (by omega), if_neg (by omega), if_neg (by omega), if_neg (by omega), if_neg (by omega), if_neg (by omega), if_neg (by omega), if_neg (by omega), if_neg (by omega)]
theorem names_in {k : Int} (h : 1 ≤ k ∧ k ≤ 10) : names k ≠ [] := by
  rcases k_cases h with rfl | rfl | rfl | rfl | rfl | rfl | rfl | rfl | rfl | rfl <;> decide
theorem has_other {k : Int} : hasW (names k) sOTHER = (decide (k = 9) || decide (k = 10)) := by
  by_cases h : 1 ≤ k ∧ k ≤ 10
  · unfold hasW
    simp only [eqS_dec]
    rcases k_cases h with rfl | rfl | rfl | rfl | rfl | rfl | rfl | rfl | rfl | rfl <;> decide
  · rw [names_out h, decide_eq_false (by omega), decide_eq_false (by omega)]; rfl
theorem has_min {k : Int} : hasW (names k) sMIN = decide (k = 2) := by
  by_cases h : 1 ≤ k ∧ k ≤ 10
  · unfold hasW
    simp only [eqS_dec]
    rcases k_cases h with rfl | rfl | rfl | rfl | rfl | rfl | rfl | rfl | rfl | rfl <;> decide
  · rw [names_out h, decide_eq_false (by omega)]; rfl
theorem has_start {k : Int} : hasW (names k) sSTART = (decide (k = 1) || decide (k = 2) || decide (k = 7)) := by
  by_cases h : 1 ≤ k ∧ k ≤ 10
  · unfold hasW
    simp only [eqS_dec]
    rcases k_cases h with rfl | rfl | rfl | rfl | rfl | rfl | rfl | rfl | rfl | rfl <;> decide
  · rw [names_out h, decide_eq_false (by omega), decide_eq_false (by omega), decide_eq_false (by omega)]; rfl
/-- Of a kind, and all fields noughts that the line doesn't name. -/
def namedB (r : RU) : Bool := !(names r.k).isEmpty && (r.other.toList.isEmpty || hasW (names r.k) sOTHER) && (decide (r.min = 0) || hasW (names r.k) sMIN) && (decide (r.start = 0) || hasW (names r.k) sSTART)
theorem named_iff {r : RU} : namedB r = true ↔ (1 ≤ r.k ∧ r.k ≤ 10) ∧ (r.other.toList.isEmpty = true ∨ r.k = 9 ∨ r.k = 10) ∧ (r.min = 0 ∨ r.k = 2) ∧ (r.start = 0 ∨ r.k = 1 ∨ r.k = 2 ∨ r.k = 7) := by
  unfold namedB
  rw [has_other, has_min, has_start]
  by_cases h : 1 ≤ r.k ∧ r.k ≤ 10
  · have hn : (names r.k).isEmpty = false := by
      cases he : names r.k with
      | nil => exact absurd he (names_in h)
      | cons a b => rfl
    rw [hn]
    simp only [Bool.not_false, Bool.true_and, Bool.and_eq_true, Bool.or_eq_true, decide_eq_true_eq]
    constructor
    · rintro ⟨⟨h1, h2⟩, h3⟩
      exact ⟨h, h1, h2, by omega⟩
    · rintro ⟨_, h1, h2, h3⟩
      exact ⟨⟨h1, h2⟩, by omega⟩
  · rw [names_out h]
    simp [h]
def inAB (n : Int) : Bool := decide (-1099511627776 ≤ n) && decide (n ≤ 1099511627776)
theorem inAB_iff {n : Int} : inAB n = true ↔ PV.inA n := by
  unfold inAB PV.inA
  rw [Bool.and_eq_true, decide_eq_true_eq, decide_eq_true_eq]
def joinsB (L : List RU) (r : RU) (kind : Int) : Bool := !(eqS r.key r.other) && (decide ((ruleR L r.key).k = kind) && decide ((ruleR L r.other).k = kind))
def beginsB (r : RU) : Bool := if r.k = 2 then decide (r.min ≤ r.start) else if r.k = 7 then (decide (r.start = 0) || decide (r.start = 1)) else true
/-- May the rule be, at this place? The program's way. -/
def mayB (L : List RU) (i : Nat) (r : RU) : Bool :=
  namedB r && keyS r.key && (inAB r.min && inAB r.start) &&
    (if r.k = 9 then joinsB L r 3 else if r.k = 10 then joinsB L r 7 && (decide ((ruleR L r.key).start = 1) || decide ((ruleR L r.other).start = 1))
     else decide (fInt L r.key = (i : Int)) && beginsB r)
def allAt (f : Nat → RU → Bool) : Nat → List RU → Bool
  | _, [] => true
  | i, r :: L => f i r && allAt f (i + 1) L
theorem allAt_iff {f : Nat → RU → Bool} : ∀ {L : List RU} {i : Nat}, allAt f i L = true ↔ ∀ j (hj : j < L.length), f (i + j) L[j] = true
  | [], i => by simp [allAt]
  | r :: L, i => by
    simp only [allAt, Bool.and_eq_true]
    rw [allAt_iff]
    constructor
    · rintro ⟨h1, h2⟩ j hj
      cases j with
      | zero => exact h1
      | succ j =>
        have := h2 j (by simpa using hj)
        rw [show i + 1 + j = i + (j + 1) from by omega] at this
        simpa using this
    · intro h
      refine ⟨h 0 (by simp), fun j hj => ?_⟩
      have := h (j + 1) (by simpa using hj)
      rw [show i + (j + 1) = i + 1 + j from by omega] at this
      simpa using this
theorem allAt_bad {f : Nat → RU → Bool} {L : List RU} {j : Nat} (hj : j < L.length) (h : f j L[j] = false) : allAt f 0 L = false := by
  rw [← Bool.not_eq_true, allAt_iff]
  intro e
  have := e j hj
  rw [Nat.zero_add, h] at this
  cases this
theorem allAt_good {f : Nat → RU → Bool} {L : List RU} (h : ∀ j (hj : j < L.length), f j L[j] = true) : allAt f 0 L = true := by
  rw [allAt_iff]
  intro j hj
  rw [Nat.zero_add]
  exact h j hj
def checkC (L : List RU) : Int := if 64 < L.length then 4 else if allAt (mayB L) 0 L = true then 0 else 140
end Go.Proofs.YtnjmgknicffcbaaGreatDoor
