/- Do all rules hold at a cut? The mathematics. -/
import Derived.Test.YtnjmgknicffcbaaGreatDoorZb15
import Derived.Test.YtnjmgknicffcbaaGreatDoorZb17
import Derived.Test.YtnjmgknicffcbaaGreatDoorZb43
import Derived.Test.YtnjmgknicffcbaaGreatDoorZb28
namespace Go.Proofs.YtnjmgknicffcbaaGreatDoor
open Go.RowKit Go.Joins
set_option linter.unusedSimpArgs false
set_option linter.unusedVariables false

/-- The elements that the first j operations add to the key. -/
def aTx (key : ByteArray) (t : TX) : Nat → List ByteArray
  | 0 => []
  | j + 1 => aTx key t j ++ (match t.ops[j]? with | some o => (if (decide (o.kind = 4) && eqS o.key key) = true then [o.elem] else []) | none => [])
def aLog (key : ByteArray) (l : LG) (i : Nat) : Nat → List ByteArray
  | 0 => []
  | d + 1 => aLog key l i d ++ (match (l i)[d]? with | some t => aTx key t t.ops.length | none => [])
/-- All elements that were added to the key in the cut, in the logs' order. -/
def aAll (key : ByteArray) (l : LG) (v : Nat → Nat) : Nat → List ByteArray
  | 0 => []
  | i + 1 => aAll key l v i ++ aLog key l i (v i)
theorem aTx_yes {key : ByteArray} {t : TX} {j : Nat} {o : TO} (h : t.ops[j]? = some o) (hk : o.kind = 4) (he : eqS o.key key = true) : aTx key t (j + 1) = aTx key t j ++ [o.elem] := by
  show aTx key t j ++ (match t.ops[j]? with | some o => (if (decide (o.kind = 4) && eqS o.key key) = true then [o.elem] else []) | none => []) = _
  rw [h]
  show aTx key t j ++ (if (decide (o.kind = 4) && eqS o.key key) = true then [o.elem] else []) = _
  rw [if_pos (by rw [he, decide_eq_true hk]; rfl)]
theorem aTx_no {key : ByteArray} {t : TX} {j : Nat} {o : TO} (h : t.ops[j]? = some o) (hk : ¬ (o.kind = 4 ∧ eqS o.key key = true)) : aTx key t (j + 1) = aTx key t j := by
  show aTx key t j ++ (match t.ops[j]? with | some o => (if (decide (o.kind = 4) && eqS o.key key) = true then [o.elem] else []) | none => []) = _
  rw [h]
  show aTx key t j ++ (if (decide (o.kind = 4) && eqS o.key key) = true then [o.elem] else []) = _
  rw [if_neg (by rw [Bool.and_eq_true, decide_eq_true_eq]; exact hk), List.append_nil]
theorem aLog_at {key : ByteArray} {l : LG} {i d : Nat} {t : TX} (h : (l i)[d]? = some t) : aLog key l i (d + 1) = aLog key l i d ++ aTx key t t.ops.length := by
  show aLog key l i d ++ _ = _
  rw [h]
theorem aTx_len (key : ByteArray) (t : TX) : ∀ j, (aTx key t j).length ≤ j
  | 0 => Nat.le_refl _
  | j + 1 => by
    have h := aTx_len key t j
    show (aTx key t j ++ _).length ≤ _
    rw [List.length_append]
    split
    · split
      · simp only [List.length_singleton]; omega
      · simp only [List.length_nil]; omega
    · simp only [List.length_nil]; omega
theorem aLog_len (key : ByteArray) (l : LG) (i : Nat) (h : ∀ t ∈ l i, t.ops.length ≤ 8) : ∀ d, (aLog key l i d).length ≤ d * 8
  | 0 => Nat.le_refl _
  | d + 1 => by
    have h1 := aLog_len key l i h d
    show (aLog key l i d ++ _).length ≤ _
    rw [List.length_append]
    split
    · next t ht =>
      have h2 := aTx_len key t t.ops.length
      have h3 := h t (List.mem_of_getElem? ht)
      omega
    · simp only [List.length_nil]; omega
theorem aAll_len (key : ByteArray) (l : LG) (v : Nat → Nat) (h : ∀ i t, i < 8 → t ∈ l i → t.ops.length ≤ 8) (hv : ∀ i, i < 8 → v i ≤ 1024) : ∀ i, i ≤ 8 → (aAll key l v i).length ≤ i * 8192
  | 0, _ => Nat.le_refl _
  | i + 1, hi => by
    have h1 := aAll_len key l v h hv i (by omega)
    have h2 := aLog_len key l i (fun t ht => h i t (by omega) ht) (v i)
    have h3 := hv i (by omega)
    show (aAll key l v i ++ aLog key l i (v i)).length ≤ _
    rw [List.length_append]
    omega
theorem pre_grow {α : Type} {f : Nat → List α} (h : ∀ n, ∃ r, f (n + 1) = f n ++ r) {j : Nat} : ∀ d, f j <+: f (j + d)
  | 0 => List.prefix_refl _
  | d + 1 => by
    obtain ⟨r, hr⟩ := h (j + d)
    rw [show j + (d + 1) = j + d + 1 by omega, hr]
    exact (pre_grow h d).trans (List.prefix_append _ _)
theorem pre_le {α : Type} {f : Nat → List α} (h : ∀ n, ∃ r, f (n + 1) = f n ++ r) {j k : Nat} (hjk : j ≤ k) : f j <+: f k := by
  have := pre_grow h (j := j) (k - j)
  rwa [show j + (k - j) = k by omega] at this
theorem aAll_pre {key : ByteArray} {l : LG} {v : Nat → Nat} {i d j : Nat} {t : TX} (hi : i < 8) (hd : d < v i) (ht : (l i)[d]? = some t) (hj : j ≤ t.ops.length) :
    aAll key l v i ++ aLog key l i d ++ aTx key t j <+: aAll key l v 8 := by
  have h1 : aTx key t j <+: aTx key t t.ops.length := pre_le (fun n => ⟨_, rfl⟩) hj
  have h2 : aLog key l i (d + 1) <+: aLog key l i (v i) := pre_le (fun n => ⟨_, rfl⟩) hd
  have h3 : aAll key l v (i + 1) <+: aAll key l v 8 := pre_le (f := aAll key l v) (fun n => ⟨_, rfl⟩) hi
  refine List.IsPrefix.trans ?_ h3
  show _ <+: aAll key l v i ++ aLog key l i (v i)
  rw [List.append_assoc]
  refine (List.prefix_append_right_inj _).2 (List.IsPrefix.trans ?_ h2)
  rw [aLog_at ht]
  exact (List.prefix_append_right_inj _).2 h1
/-- Was no element added twice to the key? -/
noncomputable def onceB (key : ByteArray) (l : LG) (v : Nat → Nat) : Bool := @decide (aAll key l v 8).Nodup (Classical.propDecidable _)
theorem once_yes {key : ByteArray} {l : LG} {v : Nat → Nat} (h : (aAll key l v 8).Nodup) : onceB key l v = true := @decide_eq_true _ (Classical.propDecidable _) h
theorem once_no {key : ByteArray} {l : LG} {v : Nat → Nat} {K : List ByteArray} {e : ByteArray} (h : K ++ [e] <+: aAll key l v 8) (hk : hasK K e = true) : onceB key l v = false := by
  refine @decide_eq_false _ (Classical.propDecidable _) fun hn => ?_
  have h1 : (K ++ [e]).Nodup := hn.sublist h.sublist
  unfold hasK at hk
  rw [List.any_eq_true] at hk
  obtain ⟨x, hx, e1⟩ := hk
  have e1 := eqS_iff.1 e1
  subst e1
  have h2 := (List.nodup_append.1 h1).2.2 x hx x (List.mem_singleton.2 rfl)
  exact h2 rfl
theorem nodup_snoc {K : List ByteArray} {e : ByteArray} (h : K.Nodup) (hk : hasK K e = false) : (K ++ [e]).Nodup := by
  refine List.nodup_append.2 ⟨h, (by simp), fun a ha b hb => ?_⟩
  rw [List.mem_singleton] at hb
  subst hb
  intro e1
  subst e1
  have : hasK K a = true := List.any_eq_true.2 ⟨a, ha, eqS_iff.2 rfl⟩
  rw [hk] at this
  cases this
/-- What a key that has a rule is. -/
def valK (L : List RU) (l : LG) (v : Nat → Nat) (key : ByteArray) : VR := valV (ruleR L key).k (ruleR L key).start l v key
/-- Does the rule hold? -/
noncomputable def holdB (L : List RU) (l : LG) (v : Nat → Nat) (r : RU) : Bool :=
  if r.k = 2 then decide (r.min ≤ (valK L l v r.key).n)
  else if r.k = 8 then onceB r.key l v
  else if r.k = 9 then (valK L l v r.key).e.all fun x => memS (valK L l v r.other).e x
  else if r.k = 10 then ((valK L l v r.key).on || (valK L l v r.other).on)
  else true
/-- Which error Holds answers. -/
def holdsE (L : List RU) (l : LG) (v : Nat → Nat) : Int := if checkC L = 0 then (if checkE l = 0 then (if closedB l v = true then 0 else 92) else (checkE l : Int)) else checkC L
noncomputable def holdsB (L : List RU) (l : LG) (v : Nat → Nat) : Bool := decide (holdsE L l v = 0) && L.all (holdB L l v)
theorem holds_e1 {L : List RU} {l : LG} {v : Nat → Nat} (h : ¬ checkC L = 0) : holdsE L l v = checkC L ∧ holdsB L l v = false := by
  have e : holdsE L l v = checkC L := if_neg h
  exact ⟨e, by unfold holdsB; rw [e, decide_eq_false h, Bool.false_and]⟩
theorem holds_e2 {L : List RU} {l : LG} {v : Nat → Nat} (h : checkC L = 0) (h2 : ¬ checkE l = 0) : holdsE L l v = (checkE l : Int) ∧ holdsB L l v = false := by
  have e : holdsE L l v = (checkE l : Int) := by unfold holdsE; rw [if_pos h, if_neg h2]
  exact ⟨e, by unfold holdsB; rw [e, decide_eq_false (by omega), Bool.false_and]⟩
theorem holds_e3 {L : List RU} {l : LG} {v : Nat → Nat} (h : checkC L = 0) (h2 : checkE l = 0) (h3 : closedB l v = false) : holdsE L l v = 92 ∧ holdsB L l v = false := by
  have e : holdsE L l v = 92 := by unfold holdsE; rw [if_pos h, if_pos h2, h3]; rfl
  exact ⟨e, by unfold holdsB; rw [e, decide_eq_false (by omega), Bool.false_and]⟩
theorem holds_e4 {L : List RU} {l : LG} {v : Nat → Nat} (h : checkC L = 0) (h2 : checkE l = 0) (h3 : closedB l v = true) : holdsE L l v = 0 ∧ holdsB L l v = L.all (holdB L l v) := by
  have e : holdsE L l v = 0 := by unfold holdsE; rw [if_pos h, if_pos h2, if_pos h3]
  exact ⟨e, by unfold holdsB; rw [e, decide_eq_true rfl, Bool.true_and]⟩
/-- What Check asks, rule by rule. -/
theorem checkC_at {L : List RU} (h : checkC L = 0) : ∀ i (hi : i < L.length), mayB L i L[i] = true := by
  unfold checkC at h
  split at h
  · cases h
  · split at h
    · rename_i ha
      rw [allAt_iff] at ha
      exact fun j hj => by have := ha j hj; rwa [Nat.zero_add] at this
    · cases h
theorem checkC_len14 {L : List RU} (h : checkC L = 0) : L.length ≤ 64 := by
  unfold checkC at h
  split at h
  · cases h
  · omega
theorem rule_self {L : List RU} {i : Nat} (hi : i < L.length) (h : fInt L L[i].key = (i : Int)) : ruleR L L[i].key = L[i] := by
  unfold fInt at h
  cases e : fIdx L L[i].key with
  | none => rw [e] at h; simp only at h; omega
  | some j =>
    rw [e] at h
    simp only at h
    have hji : j = i := by omega
    subst hji
    exact ruleR_some e hi
def lg0 : LG := fun _ => []
def v0z : Nat → Nat := fun _ => 0
theorem aAll_zero (key : ByteArray) (l : LG) : ∀ i, aAll key l v0z i = []
  | 0 => rfl
  | i + 1 => by
    show aAll key l v0z i ++ [] = []
    rw [aAll_zero key l i]; rfl
theorem dAll_zero (key : ByteArray) (l : LG) : ∀ i, dAll key l v0z i = []
  | 0 => rfl
  | i + 1 => by
    show dAll key l v0z i ++ [] = []
    rw [dAll_zero key l i]; rfl
theorem check_zero : checkE lg0 = 0 := okL_iff.2 ⟨fun i hi => Nat.zero_le _, fun i k t hi ht => by cases ht⟩
theorem closed_zero0 : closedB lg0 v0z = true := closedB_iff.2 (closed_zero lg0)
theorem valV_zero {kind : Int} (start : Int) (hk : 1 ≤ kind ∧ kind ≤ 8) (key : ByteArray) : valV kind start lg0 v0z key = valR kind start [] := by
  unfold valV valE
  rw [if_neg (show ¬ (kind < 1 ∨ 8 < kind) by omega), if_pos check_zero, if_pos closed_zero0, if_pos rfl]
  unfold valAt
  rw [dAll_zero]; rfl
/-- Of rules that may be all hold where nothing happened. -/
theorem hold_zero {L : List RU} (h : checkC L = 0) : ∀ r ∈ L, holdB L lg0 v0z r = true := by
  intro r hr
  obtain ⟨i, hi, rfl⟩ := List.mem_iff_getElem.1 hr
  obtain ⟨h1, h2, h3⟩ := may_iff.1 (checkC_at h i hi)
  unfold holdB
  rcases h3 with ⟨k9, -, -, hj⟩ | ⟨k10, -, -, hj, hs⟩ | ⟨hk, -, hf, -, -, hb⟩
  · rw [if_neg (by omega), if_neg (by omega), if_pos k9]
    unfold joinsB at hj
    simp only [Bool.and_eq_true, decide_eq_true_eq] at hj
    unfold valK
    rw [hj.2.1, valV_zero _ (by omega)]
    rfl
  · rw [if_neg (by omega), if_neg (by omega), if_neg (by omega), if_pos k10]
    unfold joinsB at hj
    simp only [Bool.and_eq_true, decide_eq_true_eq] at hj
    unfold valK
    rw [hj.2.1, hj.2.2, valV_zero _ (by omega), valV_zero _ (by omega)]
    rcases hs with e | e <;> rw [e]
    · exact Bool.or_eq_true_iff.2 (.inl rfl)
    · exact Bool.or_eq_true_iff.2 (.inr rfl)
  · by_cases k2 : L[i].k = 2
    · rw [if_pos k2]
      unfold valK
      rw [rule_self hi hf, k2, valV_zero _ (by omega)]
      show decide (L[i].min ≤ wrap64 (totD L[i].start [])) = true
      have hr := inAB_iff.1 (by simp only [Bool.and_eq_true] at h2; exact h2.2)
      unfold PV.inA at hr
      have e : wrap64 (totD L[i].start []) = L[i].start := by
        show wrap64 (L[i].start + 0 - 0) = _
        unfold wrap64
        omega
      rw [e]
      unfold beginsB at hb
      rw [if_pos k2] at hb
      exact hb
    · rw [if_neg k2]
      by_cases k8 : L[i].k = 8
      · rw [if_pos k8]
        refine once_yes ?_
        rw [aAll_zero]
        exact List.nodup_nil
      · rw [if_neg k8, if_neg (by omega), if_neg (by omega)]
theorem holds_zero {L : List RU} (h : checkC L = 0) : holdsE L lg0 v0z = 0 ∧ holdsB L lg0 v0z = true := by
  obtain ⟨h1, h2⟩ := holds_e4 (v := v0z) h check_zero closed_zero0
  exact ⟨h1, by rw [h2]; exact List.all_eq_true.2 (hold_zero h)⟩
/-- Of Ref rules that may be the keys' elements are few and rise. -/
theorem valK_rising (L : List RU) (l : LG) (v : Nat → Nat) (key : ByteArray) : RisingS (valK L l v key).e := valV_rising _ _ _ _ _
end Go.Proofs.YtnjmgknicffcbaaGreatDoor
