/- Do all rules hold at a cut? The mathematics. The mathematics of RuleOnce: identifiers by their members. The mathematics of RuleRestores: forms keep references and alternatives. -/
import Derived.Test.YtnjmgknicffcbaaGreatDoorZr37
import Derived.Test.YtnjmgknicffcbaaGreatDoorZr38
import Derived.Test.YtnjmgknicffcbaaGreatDoorZr29
import Derived.Test.YtnjmgknicffcbaaGreatDoorZr20
import Derived.Test.YtnjmgknicffcbaaGreatDoorZr30
namespace Go.Proofs.YtnjmgknicffcbaaGreatDoor
open Go.RowKit Go.Joins
set_option linter.unusedSimpArgs false
set_option linter.unusedVariables false

/-- The elements that the first j operations add to the key. -/
def aTx (key : ByteArray) (t : TX) : Nat → List ByteArray
  | 0 => []
  | j + 1 => aTx key t j ++ (match t.ops[j]? with | some o => (if (decide (o.kind = 4) && eqS o.key key) = true then [o.elem] else []) | none => [])
def aLog (key : ByteArray) (l : LG) (i : Nat) : Nat → List ByteArray
  | 0 => []
  | d + 1 => aLog key l i d ++ (match (l i)[d]? with | some t => aTx key t t.ops.length | none => [])
/-- All elements that were added to the key in the cut, in the logs' order. -/
def aAll (key : ByteArray) (l : LG) (v : Nat → Nat) : Nat → List ByteArray
  | 0 => []
  | i + 1 => aAll key l v i ++ aLog key l i (v i)
theorem aTx_yes {key : ByteArray} {t : TX} {j : Nat} {o : TO} (h : t.ops[j]? = some o) (hk : o.kind = 4) (he : eqS o.key key = true) : aTx key t (j + 1) = aTx key t j ++ [o.elem] := by
  show aTx key t j ++ (match t.ops[j]? with | some o => (if (decide (o.kind = 4) && eqS o.key key) = true then [o.elem] else []) | none => []) = _
  rw [h]
  show aTx key t j ++ (if (decide (o.kind = 4) && eqS o.key key) = true then [o.elem] else []) = _
  rw [if_pos (by rw [he, decide_eq_true hk]; rfl)]
theorem aTx_no {key : ByteArray} {t : TX} {j : Nat} {o : TO} (h : t.ops[j]? = some o) (hk : ¬ (o.kind = 4 ∧ eqS o.key key = true)) : aTx key t (j + 1) = aTx key t j := by
  show aTx key t j ++ (match t.ops[j]? with | some o => (if (decide (o.kind = 4) && eqS o.key key) = true then [o.elem] else []) | none => []) = _
  rw [h]
  show aTx key t j ++ (if (decide (o.kind = 4) && eqS o.key key) = true then [o.elem] else []) = _
  rw [if_neg (by rw [Bool.and_eq_true, decide_eq_true_eq]; exact hk), List.append_nil]
theorem aLog_at {key : ByteArray} {l : LG} {i d : Nat} {t : TX} (h : (l i)[d]? = some t) : aLog key l i (d + 1) = aLog key l i d ++ aTx key t t.ops.length := by
  show aLog key l i d ++ _ = _
  rw [h]
theorem aTx_len (key : ByteArray) (t : TX) : ∀ j, (aTx key t j).length ≤ j
  | 0 => Nat.le_refl _
  | j + 1 => by
    have h := aTx_len key t j
    show (aTx key t j ++ _).length ≤ _
    rw [List.length_append]
    split
    · split
      · simp only [List.length_singleton]; omega
      · simp only [List.length_nil]; omega
    · simp only [List.length_nil]; omega
theorem aLog_len (key : ByteArray) (l : LG) (i : Nat) (h : ∀ t ∈ l i, t.ops.length ≤ 8) : ∀ d, (aLog key l i d).length ≤ d * 8
  | 0 => Nat.le_refl _
  | d + 1 => by
    have h1 := aLog_len key l i h d
    show (aLog key l i d ++ _).length ≤ _
    rw [List.length_append]
    split
    · next t ht =>
      have h2 := aTx_len key t t.ops.length
      have h3 := h t (List.mem_of_getElem? ht)
      omega
    · simp only [List.length_nil]; omega
theorem aAll_len (key : ByteArray) (l : LG) (v : Nat → Nat) (h : ∀ i t, i < 8 → t ∈ l i → t.ops.length ≤ 8) (hv : ∀ i, i < 8 → v i ≤ 1024) : ∀ i, i ≤ 8 → (aAll key l v i).length ≤ i * 8192
  | 0, _ => Nat.le_refl _
  | i + 1, hi => by
    have h1 := aAll_len key l v h hv i (by omega)
    have h2 := aLog_len key l i (fun t ht => h i t (by omega) ht) (v i)
    have h3 := hv i (by omega)
    show (aAll key l v i ++ aLog key l i (v i)).length ≤ _
    rw [List.length_append]
    omega
theorem pre_grow {α : Type} {f : Nat → List α} (h : ∀ n, ∃ r, f (n + 1) = f n ++ r) {j : Nat} : ∀ d, f j <+: f (j + d)
  | 0 => List.prefix_refl _
  | d + 1 => by
    obtain ⟨r, hr⟩ := h (j + d)
    rw [show j + (d + 1) = j + d + 1 by omega, hr]
    exact (pre_grow h d).trans (List.prefix_append _ _)
theorem pre_le {α : Type} {f : Nat → List α} (h : ∀ n, ∃ r, f (n + 1) = f n ++ r) {j k : Nat} (hjk : j ≤ k) : f j <+: f k := by
  have := pre_grow h (j := j) (k - j)
  rwa [show j + (k - j) = k by omega] at this
theorem aAll_pre {key : ByteArray} {l : LG} {v : Nat → Nat} {i d j : Nat} {t : TX} (hi : i < 8) (hd : d < v i) (ht : (l i)[d]? = some t) (hj : j ≤ t.ops.length) :
    aAll key l v i ++ aLog key l i d ++ aTx key t j <+: aAll key l v 8 := by
  have h1 : aTx key t j <+: aTx key t t.ops.length := pre_le (fun n => ⟨_, rfl⟩) hj
  have h2 : aLog key l i (d + 1) <+: aLog key l i (v i) := pre_le (fun n => ⟨_, rfl⟩) hd
  have h3 : aAll key l v (i + 1) <+: aAll key l v 8 := pre_le (f := aAll key l v) (fun n => ⟨_, rfl⟩) hi
  refine List.IsPrefix.trans ?_ h3
  show _ <+: aAll key l v i ++ aLog key l i (v i)
  rw [List.append_assoc]
  refine (List.prefix_append_right_inj _).2 (List.IsPrefix.trans ?_ h2)
  rw [aLog_at ht]
  exact (List.prefix_append_right_inj _).2 h1
/-- Was no element added twice to the key? -/
noncomputable def onceB (key : ByteArray) (l : LG) (v : Nat → Nat) : Bool := @decide (aAll key l v 8).Nodup (Classical.propDecidable _)
theorem once_yes {key : ByteArray} {l : LG} {v : Nat → Nat} (h : (aAll key l v 8).Nodup) : onceB key l v = true := @decide_eq_true _ (Classical.propDecidable _) h
theorem once_no {key : ByteArray} {l : LG} {v : Nat → Nat} {K : List ByteArray} {e : ByteArray} (h : K ++ [e] <+: aAll key l v 8) (hk : hasK K e = true) : onceB key l v = false := by
  refine @decide_eq_false _ (Classical.propDecidable _) fun hn => ?_
  have h1 : (K ++ [e]).Nodup := hn.sublist h.sublist
  unfold hasK at hk
  rw [List.any_eq_true] at hk
  obtain ⟨x, hx, e1⟩ := hk
  have e1 := eqS_iff.1 e1
  subst e1
  have h2 := (List.nodup_append.1 h1).2.2 x hx x (List.mem_singleton.2 rfl)
  exact h2 rfl
theorem nodup_snoc {K : List ByteArray} {e : ByteArray} (h : K.Nodup) (hk : hasK K e = false) : (K ++ [e]).Nodup := by
  refine List.nodup_append.2 ⟨h, (by simp), fun a ha b hb => ?_⟩
  rw [List.mem_singleton] at hb
  subst hb
  intro e1
  subst e1
  have : hasK K a = true := List.any_eq_true.2 ⟨a, ha, eqS_iff.2 rfl⟩
  rw [hk] at this
  cases this
/-- What a key that has a rule is. -/
def valK (L : List RU) (l : LG) (v : Nat → Nat) (key : ByteArray) : VR := valV (ruleR L key).k (ruleR L key).start l v key
/-- Does the rule hold? -/
noncomputable def holdB (L : List RU) (l : LG) (v : Nat → Nat) (r : RU) : Bool :=
  if r.k = 2 then decide (r.min ≤ (valK L l v r.key).n)
  else if r.k = 8 then onceB r.key l v
  else if r.k = 9 then (valK L l v r.key).e.all fun x => memS (valK L l v r.other).e x
  else if r.k = 10 then ((valK L l v r.key).on || (valK L l v r.other).on)
  else true
/-- Which error Holds answers. -/
def holdsE (L : List RU) (l : LG) (v : Nat → Nat) : Int := if checkC L = 0 then (if checkE l = 0 then (if closedB l v = true then 0 else 92) else (checkE l : Int)) else checkC L
noncomputable def holdsB (L : List RU) (l : LG) (v : Nat → Nat) : Bool := decide (holdsE L l v = 0) && L.all (holdB L l v)
theorem holds_e1 {L : List RU} {l : LG} {v : Nat → Nat} (h : ¬ checkC L = 0) : holdsE L l v = checkC L ∧ holdsB L l v = false := by
  have e : holdsE L l v = checkC L := if_neg h
  exact ⟨e, by unfold holdsB; rw [e, decide_eq_false h, Bool.false_and]⟩
theorem holds_e2 {L : List RU} {l : LG} {v : Nat → Nat} (h : checkC L = 0) (h2 : ¬ checkE l = 0) : holdsE L l v = (checkE l : Int) ∧ holdsB L l v = false := by
  have e : holdsE L l v = (checkE l : Int) := by unfold holdsE; rw [if_pos h, if_neg h2]
  exact ⟨e, by unfold holdsB; rw [e, decide_eq_false (by omega), Bool.false_and]⟩
theorem holds_e3 {L : List RU} {l : LG} {v : Nat → Nat} (h : checkC L = 0) (h2 : checkE l = 0) (h3 : closedB l v = false) : holdsE L l v = 92 ∧ holdsB L l v = false := by
  have e : holdsE L l v = 92 := by unfold holdsE; rw [if_pos h, if_pos h2, h3]; rfl
  exact ⟨e, by unfold holdsB; rw [e, decide_eq_false (by omega), Bool.false_and]⟩
theorem holds_e4 {L : List RU} {l : LG} {v : Nat → Nat} (h : checkC L = 0) (h2 : checkE l = 0) (h3 : closedB l v = true) : holdsE L l v = 0 ∧ holdsB L l v = L.all (holdB L l v) := by
  have e : holdsE L l v = 0 := by unfold holdsE; rw [if_pos h, if_pos h2, if_pos h3]
  exact ⟨e, by unfold holdsB; rw [e, decide_eq_true rfl, Bool.true_and]⟩
/-- What Check asks, rule by rule. -/
theorem checkC_at {L : List RU} (h : checkC L = 0) : ∀ i (hi : i < L.length), mayB L i L[i] = true := by
  unfold checkC at h
  split at h
  · cases h
  · split at h
    · rename_i ha
      rw [allAt_iff] at ha
      exact fun j hj => by have := ha j hj; rwa [Nat.zero_add] at this
    · cases h
theorem checkC_len14 {L : List RU} (h : checkC L = 0) : L.length ≤ 64 := by
  unfold checkC at h
  split at h
  · cases h
  · omega
/-- Of Ref rules that may be the keys' elements are few and rise. -/
theorem valK_rising (L : List RU) (l : LG) (v : Nat → Nat) (key : ByteArray) : RisingS (valK L l v key).e := valV_rising _ _ _ _ _
end Go.Proofs.YtnjmgknicffcbaaGreatDoor
namespace Go.Proofs.YtnjmgknicffcbaaGreatDoor
open Go.RowKit Go.Joins
set_option linter.unusedSimpArgs false
set_option linter.unusedVariables false

theorem scan_ok {L : List RU} : ∀ {ops : List TO}, scanE L ops = 0 → ∀ o ∈ ops, (ruleR L o.key).k ≠ 0 ∧ fitsB (ruleR L o.key).k o.kind = true
  | [], _, o, ho => by cases ho
  | p :: t, h, o, ho => by
    unfold scanE at h
    split at h
    · cases h
    · next h1 =>
      split at h
      · cases h
      · next h2 =>
        rcases List.mem_cons.1 ho with rfl | ho
        · exact ⟨h1, by simpa using h2⟩
        · exact scan_ok h o ho
/-- What a Form asks. -/
theorem form_ok {L : List RU} {m : Int} {ops : List TO} (h : formC L m ops = 0) : checkC L = 0 ∧ okOpsB m ops = true ∧ (∀ o ∈ ops, (ruleR L o.key).k ≠ 0 ∧ fitsB (ruleR L o.key).k o.kind = true) ∧ ∀ o ∈ ops, goodD L m ops o = true := by
  rw [← formD_C] at h
  unfold formD at h
  split at h
  · next hc => exact absurd h hc
  · next hc =>
    split at h
    · cases h
    · next ho =>
      split at h
      · next hs => exact absurd h hs
      · next hs =>
        split at h
        · next hg =>
          refine ⟨?_, by simpa using ho, scan_ok (by simpa using hs), fun o ho => List.all_eq_true.1 hg o ho⟩
          rw [← checkD_C]
          simpa using hc
        · cases h
theorem checkC_of {L : List RU} (hl : L.length ≤ 64) (h : ∀ i (hi : i < L.length), mayB L i L[i] = true) : checkC L = 0 := by
  unfold checkC
  rw [if_neg (by omega), if_pos (allAt_good h)]
theorem checkC_len {L : List RU} (h : checkC L = 0) : L.length ≤ 64 := by
  unfold checkC at h
  split at h
  · cases h
  · omega
end Go.Proofs.YtnjmgknicffcbaaGreatDoor
namespace Go.Proofs.YtnjmgknicffcbaaGreatDoor
open Go.RowKit Go.Joins
set_option linter.unusedSimpArgs false
set_option linter.unusedVariables false

theorem rises_logR {l : LG} (h : OkL l) {i : Nat} (hi : i < 8) {k : Nat} {t : TX} (ht : (l i)[k]? = some t) : ∀ (d : Nat) {u : TX}, (l i)[k + 1 + d]? = some u → t.stamp < u.stamp
  | 0, u, hu => h.rise hi ht hu
  | d + 1, u, hu => by
    have hlt : k + 1 + d < (l i).length := by
      have := (List.getElem?_eq_some_iff.1 hu).1
      omega
    have h1 := rises_logR h hi ht d (List.getElem?_eq_getElem hlt)
    have h2 := h.rise hi (List.getElem?_eq_getElem hlt) (u := u) (by rw [← hu]; congr 1)
    omega
/-- What was seen is older. -/
theorem seen_older {key key' : ByteArray} {k k' : Int} {l : LG} {v : Nat → Nat} {x y : TX × Nat} (hl : OkL l) (hx : x ∈ plL key k (ordR l v)) (hy : y ∈ plL key' k' (ordR l v)) (h : hasB y.1.deps x.1.origin x.1.seq = true) : x.1.stamp < y.1.stamp := by
  obtain ⟨⟨i, c, hi, hc, ho, hs, -⟩, -⟩ := plL_fact hl hx
  obtain ⟨⟨j, d, hj, hd, ho', hs', -⟩, -⟩ := plL_fact hl hy
  unfold hasB at h
  simp only [Bool.and_eq_true, decide_eq_true_eq] at h
  rw [ho] at h
  have hle : x.1.seq ≤ y.1.deps i := by simpa using h.2
  have hdl := lq (hl.tx j d y.1 hj hd).2.2.2.1 hi
  obtain ⟨q, hq⟩ : ∃ q, y.1.deps i = q + 1 := ⟨y.1.deps i - 1, by omega⟩
  have hql : q < (l i).length := by unfold sizeV at hdl; omega
  have h1 := hl.before hj hi hd (List.getElem?_eq_getElem hql) hq
  rcases Nat.lt_or_ge c q with hcq | hcq
  · have := rises_logR hl hi hc (q - (c + 1)) (u := (l i)[q]) (by rw [show c + 1 + (q - (c + 1)) = q by omega]; exact List.getElem?_eq_getElem hql)
    omega
  · have hcq2 : c = q := by omega
    subst hcq2
    rw [List.getElem?_eq_getElem hql] at hc
    rw [Option.some.inj hc] at h1
    exact h1
theorem eqTX_seen {x y z : TX × Nat} (a : TX × Nat) (h1 : a.1 = x.1) (h2 : z.1 = y.1) (hne : ¬ (x.1.origin = y.1.origin ∧ x.1.seq = y.1.seq)) (h : seenP x y = true) : seenP a z = true := by
  unfold seenP at h ⊢
  rw [if_neg hne] at h
  rw [h1, h2, if_neg hne]
  exact h
/-- Every transaction has the Form that the rules ask. -/
def AllForm (L : List RU) (l : LG) : Prop := ∀ i, i < 8 → ∀ t ∈ l i, formC L (i : Int) t.ops = 0
section
variable {L : List RU} {l : LG} {v : Nat → Nat}
theorem pl_form (hl : OkL l) (hf : AllForm L l) {key : ByteArray} {k : Int} {x : TX × Nat} (hx : x ∈ plL key k (ordR l v)) :
    goodD L x.1.origin x.1.ops (opAt x.1 x.2) = true ∧ okOp (opAt x.1 x.2) x.1.origin ∧ (opAt x.1 x.2).kind = k ∧ (opAt x.1 x.2).key = key ∧ x.1 ∈ ordR l v := by
  obtain ⟨⟨i, c, hi, hc, ho, -⟩, hlt, hk, hkey⟩ := plL_fact hl hx
  have hff := form_ok (hf i hi x.1 (List.mem_of_getElem? hc))
  have hm : opAt x.1 x.2 ∈ x.1.ops := by rw [opAt_get hlt]; exact List.getElem_mem hlt
  rw [ho]
  exact ⟨hff.2.2.2 _ hm, okOp_of hff.2.1 _ hm, hk, hkey, (plL_mem.1 hx).1⟩
theorem holdsO_pl {t : TX} {kind : Int} {key elem : ByteArray} (ht : t ∈ ordR l v) (h : holdsO t.ops kind key elem = true) : ∃ j, (t, j) ∈ plL key kind (ordR l v) ∧ elP (t, j) = elem := by
  unfold holdsO at h
  obtain ⟨o, ho, hi⟩ := List.any_eq_true.1 h
  obtain ⟨h1, h2, h3⟩ := isO_dec.1 hi
  obtain ⟨j, hj⟩ := List.mem_iff_getElem?.1 ho
  refine ⟨j, plL_mem.2 ⟨ht, o, hj, ?_⟩, ?_⟩
  · unfold isPl
    rw [h1, h2, eqS_iff.2 rfl, decide_eq_true rfl]; rfl
  · show (opAt t j).elem = _
    rw [opAt_some hj]; exact h3
theorem pl_holdsO (hl : OkL l) {key : ByteArray} {k : Int} {x : TX × Nat} (hx : x ∈ plL key k (ordR l v)) : holdsO x.1.ops k key (elP x) = true := by
  obtain ⟨-, hlt, hk, hkey⟩ := plL_fact hl hx
  unfold holdsO
  refine List.any_eq_true.2 ⟨opAt x.1 x.2, by rw [opAt_get hlt]; exact List.getElem_mem hlt, isO_dec.2 ⟨hk, hkey, rfl⟩⟩
theorem good_cross {m : Int} {ops : List TO} {o : TO} (h : goodD L m ops o = true) : crossB ops o = false := by
  unfold goodD at h
  rw [Bool.and_eq_true, Bool.and_eq_true] at h
  simpa using h.1.1
theorem good_owed {m : Int} {ops : List TO} {o : TO} (h : goodD L m ops o = true) {r : RU} (hr : r ∈ L) : owedB ops o r = true := by
  unfold goodD at h
  rw [Bool.and_eq_true] at h
  exact List.all_eq_true.1 h.2 r hr
/-- A transaction with an Add has no Remove of it. -/
theorem no_both (hl : OkL l) (hf : AllForm L l) {key : ByteArray} {x y : TX × Nat} (hx : x ∈ plL key 4 (ordR l v)) (hy : y ∈ plL key 5 (ordR l v)) (he : elP y = elP x) : ¬ (x.1.origin = y.1.origin ∧ x.1.seq = y.1.seq) := by
  intro hs
  have e := same_tx hl hx hy hs.1 hs.2
  obtain ⟨hg, -, hk, hkey, -⟩ := pl_form hl hf hx
  have hc := good_cross hg
  have hh := pl_holdsO hl hy
  rw [← e, he] at hh
  unfold crossB at hc
  rw [hk, hkey] at hc
  rw [Bool.or_eq_false_iff] at hc
  have hc1 := hc.1
  rw [decide_eq_true rfl, Bool.true_and] at hc1
  have : holdsO x.1.ops 5 key (opAt x.1 x.2).elem = true := hh
  rw [this] at hc1
  cases hc1
theorem elP_flag (hl : OkL l) (hf : AllForm L l) {key : ByteArray} {k : Int} (hk : k = 7 ∨ k = 8) {x : TX × Nat} (hx : x ∈ plL key k (ordR l v)) : elP x = ⟨#[]⟩ := by
  obtain ⟨-, hok, hkk, -, -⟩ := pl_form hl hf hx
  exact okOp_e hok (by rw [hkk]; exact hk)
theorem no_bothF (hl : OkL l) (hf : AllForm L l) {key : ByteArray} {x y : TX × Nat} (hx : x ∈ plL key 7 (ordR l v)) (hy : y ∈ plL key 8 (ordR l v)) : ¬ (x.1.origin = y.1.origin ∧ x.1.seq = y.1.seq) := by
  intro hs
  have e := same_tx hl hx hy hs.1 hs.2
  obtain ⟨hg, -, hk, hkey, -⟩ := pl_form hl hf hx
  have hc := good_cross hg
  have hh := pl_holdsO hl hy
  rw [← e, elP_flag hl hf (.inr rfl) hy] at hh
  unfold crossB at hc
  rw [hk, hkey] at hc
  rw [Bool.or_eq_false_iff] at hc
  have hc1 := hc.2
  rw [decide_eq_true rfl, Bool.true_and, hh] at hc1
  cases hc1
/-- What is in the set of a reference's key is in the set of its other. -/
theorem ref_holds (hl : OkL l) (hf : AllForm L l) {r : RU} (hr : r ∈ L) (h9 : r.k = 9) {s : ByteArray}
    (h : s ∈ riseT (elemsD (unsL 4 5 ((dAll r.key l v 8).map toD)))) : s ∈ riseT (elemsD (unsL 4 5 ((dAll r.other l v 8).map toD))) := by
  rw [mem_riseT] at h ⊢
  rw [unsL_Z (P := fun x => ansB x (plL r.key 5 (ordR l v))) fun x hx => uns_ans hl (by decide) (by decide) hx] at h
  rw [unsL_Z (P := fun x => ansB x (plL r.other 5 (ordR l v))) fun x hx => uns_ans hl (by decide) (by decide) hx]
  obtain ⟨a, ha, hans, he⟩ := h
  obtain ⟨hg, -, hk, hkey, hat⟩ := pl_form hl hf ha
  have how := good_owed hg hr
  unfold owedB at how
  rw [if_pos ⟨h9, hk, hkey⟩] at how
  obtain ⟨j, hb, hbe⟩ := holdsO_pl hat how
  refine ⟨(a.1, j), hb, ?_, by rw [hbe]; exact he⟩
  rw [Bool.eq_false_iff]
  intro hby
  unfold ansB at hby
  obtain ⟨y, hy, hy2⟩ := List.any_eq_true.1 hby
  rw [Bool.and_eq_true] at hy2
  have hye := eqS_iff.1 hy2.1
  have hne := no_both hl hf hb hy hye
  obtain ⟨hgy, -, hky, hkeyy, hyt⟩ := pl_form hl hf hy
  have howy := good_owed hgy hr
  unfold owedB at howy
  rw [if_neg (by rw [hky]; omega), if_pos ⟨h9, hky, hkeyy⟩] at howy
  obtain ⟨q, hz, hze⟩ := holdsO_pl hyt howy
  have hsee := eqTX_seen (x := (a.1, j)) (y := y) (z := (y.1, q)) a rfl rfl hne hy2.2
  have : ansB a (plL r.key 5 (ordR l v)) = true := by
    unfold ansB
    refine List.any_eq_true.2 ⟨(y.1, q), hz, ?_⟩
    rw [hsee, Bool.and_true]
    refine eqS_iff.2 ?_
    rw [hze]
    have e1 : (opAt y.1 y.2).elem = elP (a.1, j) := hye
    rw [e1, hbe]
    rfl
  have hans : ansB a (plL r.key 5 (ordR l v)) = false := hans
  rw [this] at hans
  cases hans
theorem stamps_bound : ∀ M : List TX, ∃ n : Nat, ∀ t ∈ M, t.stamp ≤ n
  | [] => ⟨0, fun t h => by cases h⟩
  | a :: M => by
    obtain ⟨n, hn⟩ := stamps_bound M
    refine ⟨max n a.stamp, fun t ht => ?_⟩
    rcases List.mem_cons.1 ht with rfl | ht
    · exact Nat.le_max_right _ _
    · exact Nat.le_trans (hn t ht) (Nat.le_max_left _ _)
/-- Of two flags, of which an Off of one asks an On of the other, one is on. -/
theorem on_step (hl : OkL l) (hf : AllForm L l) {A B : ByteArray} {x : TX × Nat} (hx : x ∈ plL A 8 (ordR l v)) (how : holdsO x.1.ops 7 B ⟨#[]⟩ = true) (hoff : (plL B 7 (ordR l v)).any (fun x => !ansB x (plL B 8 (ordR l v))) = false) :
    ∃ y, y ∈ plL B 8 (ordR l v) ∧ x.1.stamp < y.1.stamp := by
  obtain ⟨-, -, -, -, hat⟩ := pl_form hl hf hx
  obtain ⟨j, hb, -⟩ := holdsO_pl hat how
  have h1 := List.any_eq_false.1 hoff (x.1, j) hb
  have h2 : ansB (x.1, j) (plL B 8 (ordR l v)) = true := by simpa using h1
  unfold ansB at h2
  obtain ⟨y, hy, hy2⟩ := List.any_eq_true.1 h2
  rw [Bool.and_eq_true] at hy2
  have hne := no_bothF hl hf hb hy
  have hs := hy2.2
  unfold seenP at hs
  rw [if_neg hne] at hs
  exact ⟨y, hy, seen_older (x := (x.1, j)) hl hb hy hs⟩
theorem either_holds (hl : OkL l) (hf : AllForm L l) {r : RU} (hr : r ∈ L) (h10 : r.k = 10) (hne : r.key ≠ r.other) {sa sb : Int} (hs : sa = 1 ∨ sb = 1) :
    (onB sa ((dAll r.key l v 8).map toD) || onB sb ((dAll r.other l v 8).map toD)) = true := by
  rw [on_same hl, on_same hl]
  rw [← Bool.not_eq_false]
  intro hoff
  rw [Bool.or_eq_false_iff, Bool.or_eq_false_iff, Bool.or_eq_false_iff] at hoff
  obtain ⟨⟨a1, a2⟩, b1, b2⟩ := hoff
  have step : ∀ x, (x ∈ plL r.key 8 (ordR l v) ∨ x ∈ plL r.other 8 (ordR l v)) → ∃ y, (y ∈ plL r.key 8 (ordR l v) ∨ y ∈ plL r.other 8 (ordR l v)) ∧ x.1.stamp < y.1.stamp := by
    intro x hx
    rcases hx with hx | hx
    · obtain ⟨hg, -, hk, hkey, -⟩ := pl_form hl hf hx
      have how := good_owed hg hr
      unfold owedB at how
      rw [if_neg (by omega), if_neg (by omega), if_pos ⟨h10, hk, hkey⟩] at how
      obtain ⟨y, hy, hlt⟩ := on_step hl hf hx how b2
      exact ⟨y, .inr hy, hlt⟩
    · obtain ⟨hg, -, hk, hkey, -⟩ := pl_form hl hf hx
      have how := good_owed hg hr
      unfold owedB at how
      rw [if_neg (by omega), if_neg (by omega), if_neg (fun q => hne (by rw [← q.2.2, hkey])), if_pos ⟨h10, hk, hkey⟩] at how
      obtain ⟨y, hy, hlt⟩ := on_step hl hf hx how a2
      exact ⟨y, .inl hy, hlt⟩
  have start : ∃ x, x ∈ plL r.key 8 (ordR l v) ∨ x ∈ plL r.other 8 (ordR l v) := by
    have some_of : ∀ (q : Int) (M : List (TX × Nat)), q = 1 → (!decide (q = 0) && decide (M.length = 0)) = false → ∃ x, x ∈ M := by
      intro q M hq h
      subst hq
      cases M with
      | nil => cases h
      | cons x M => exact ⟨x, List.mem_cons_self⟩
    rcases hs with e | e
    · obtain ⟨x, hx⟩ := some_of sa _ e a1
      exact ⟨x, .inl hx⟩
    · obtain ⟨x, hx⟩ := some_of sb _ e b1
      exact ⟨x, .inr hx⟩
  have far : ∀ n : Nat, ∃ x, (x ∈ plL r.key 8 (ordR l v) ∨ x ∈ plL r.other 8 (ordR l v)) ∧ n ≤ x.1.stamp := by
    intro n
    induction n with
    | zero =>
      obtain ⟨x, hx⟩ := start
      exact ⟨x, hx, Nat.zero_le _⟩
    | succ n ih =>
      obtain ⟨x, hx, hn⟩ := ih
      obtain ⟨y, hy, hlt⟩ := step x hx
      exact ⟨y, hy, by omega⟩
  obtain ⟨n, hn⟩ := stamps_bound (ordR l v)
  obtain ⟨x, hx, hlt⟩ := far (n + 1)
  have hm : x.1 ∈ ordR l v := by
    rcases hx with hx | hx
    · exact (plL_mem.1 hx).1
    · exact (plL_mem.1 hx).1
  have := hn x.1 hm
  omega
end
/-- The rules, without what forms can't keep: bounds, and identifiers' oneness. -/
def convR (r : RU) : RU := if r.k = 2 then ⟨1, r.key, r.other, 0, r.start⟩ else if r.k = 8 then ⟨3, r.key, r.other, r.min, r.start⟩ else r
theorem convR_key (r : RU) : (convR r).key = r.key ∧ (convR r).other = r.other ∧ (convR r).start = r.start := by
  unfold convR
  split
  · exact ⟨rfl, rfl, rfl⟩
  · split
    · exact ⟨rfl, rfl, rfl⟩
    · exact ⟨rfl, rfl, rfl⟩
theorem convR_kn (r : RU) : knB (convR r).k = knB r.k := by
  unfold convR
  split
  · next h => rw [h]; rfl
  · split
    · next h => rw [h]; rfl
    · rfl
theorem conv_idx (L : List RU) (key : ByteArray) : fIdx (L.map convR) key = fIdx L key := by
  unfold fIdx
  rw [List.findIdx?_map]
  congr 1
  funext r
  show isF key (convR r) = isF key r
  unfold isF
  rw [convR_kn, (convR_key r).1]
theorem conv_ruleR (L : List RU) (key : ByteArray) : ruleR (L.map convR) key = convR (ruleR L key) := by
  cases h : fIdx L key with
  | none =>
    rw [ruleR_none h, ruleR_none (by rw [conv_idx]; exact h)]
    rfl
  | some j =>
    obtain ⟨hj, _⟩ := fIdx_some.1 h
    rw [ruleR_some h hj, ruleR_some (j := j) (by rw [conv_idx]; exact h) (by rw [List.length_map]; exact hj), List.getElem_map]
theorem conv_same {r : RU} (h : r.k = 3 ∨ r.k = 7 ∨ r.k = 9 ∨ r.k = 10) : convR r = r := by
  unfold convR
  rw [if_neg (by omega), if_neg (by omega)]
theorem conv_joins {L : List RU} {r : RU} {kind : Int} (hk : kind = 3 ∨ kind = 7) (h : joinsB L r kind = true) : joinsB (L.map convR) r kind = true := by
  unfold joinsB at h ⊢
  simp only [Bool.and_eq_true, decide_eq_true_eq] at h ⊢
  rw [conv_ruleR, conv_ruleR, conv_same (by omega), conv_same (by omega)]
  exact h
theorem check_conv {L : List RU} (h : checkC L = 0) : checkC (L.map convR) = 0 := by
  refine checkC_of (by rw [List.length_map]; exact checkC_len h) fun i hi => ?_
  have hi2 : i < L.length := by rw [List.length_map] at hi; exact hi
  rw [List.getElem_map]
  obtain ⟨m1, m2, m3⟩ := may_iff.1 (checkC_at h i hi2)
  obtain ⟨c1, c2, c3⟩ := convR_key L[i]
  rcases m3 with ⟨k9, z1, z2, hj⟩ | ⟨k10, z1, z2, hj, hs⟩ | ⟨hk, ho, hf, hm, hst, hb⟩
  · rw [conv_same (.inr (.inr (.inl k9)))]
    exact may_iff.2 ⟨m1, m2, .inl ⟨k9, z1, z2, conv_joins (.inl rfl) hj⟩⟩
  · rw [conv_same (.inr (.inr (.inr k10)))]
    refine may_iff.2 ⟨m1, m2, .inr (.inl ⟨k10, z1, z2, conv_joins (.inr rfl) hj, ?_⟩)⟩
    rw [conv_ruleR, conv_ruleR, (convR_key _).2.2, (convR_key _).2.2]
    exact hs
  · rw [Bool.and_eq_true] at m2
    have hfi : fInt (L.map convR) L[i].key = (i : Int) := by
      unfold fInt
      rw [conv_idx]
      exact hf
    by_cases k2 : L[i].k = 2
    · have e : convR L[i] = ⟨1, L[i].key, L[i].other, 0, L[i].start⟩ := by unfold convR; rw [if_pos k2]
      rw [e]
      refine may_iff.2 ⟨m1, by rw [Bool.and_eq_true]; exact ⟨rfl, m2.2⟩, .inr (.inr ⟨by show (1 : Int) ≤ 1 ∧ (1 : Int) ≤ 8; decide, ho, hfi, .inl rfl, .inr (.inl rfl), rfl⟩)⟩
    · by_cases k8 : L[i].k = 8
      · have e : convR L[i] = ⟨3, L[i].key, L[i].other, L[i].min, L[i].start⟩ := by unfold convR; rw [if_neg k2, if_pos k8]
        rw [e]
        refine may_iff.2 ⟨m1, by rw [Bool.and_eq_true]; exact m2, .inr (.inr ⟨by show (1 : Int) ≤ 3 ∧ (3 : Int) ≤ 8; decide, ho, hfi, .inl (by rcases hm with q | q; exact q; omega), .inl (by rcases hst with q | q | q | q; exact q; omega; omega; omega), rfl⟩)⟩
      · have e : convR L[i] = L[i] := by unfold convR; rw [if_neg k2, if_neg k8]
        rw [e]
        exact may_iff.2 ⟨m1, by rw [Bool.and_eq_true]; exact m2, .inr (.inr ⟨hk, ho, hfi, hm, hst, hb⟩)⟩
theorem valR_on7 (start : Int) (D : List DD) : (valR 7 start D).on = onB start D := rfl
theorem valR_e3 (start : Int) (D : List DD) : (valR 3 start D).e = riseT (elemsD (unsL 4 5 D)) := rfl
/-- Where every transaction has its form, references and alternatives hold at every closed cut. -/
theorem restores {L : List RU} {l : LG} {c : Nat → Nat} (h : checkC L = 0) (hf : AllForm L l) (hl : checkE l = 0) (hc : closedB l c = true) :
    holdsE (L.map convR) l c = 0 ∧ holdsB (L.map convR) l c = true := by
  obtain ⟨h1, h2⟩ := holds_e4 (check_conv h) hl hc
  refine ⟨h1, ?_⟩
  rw [h2]
  refine List.all_eq_true.2 fun q hq => ?_
  obtain ⟨r, hr, rfl⟩ := List.mem_map.1 hq
  obtain ⟨p, hp, e⟩ := List.mem_iff_getElem.1 hr
  have hok := okL_iff.1 hl
  have hval : ∀ (kind start : Int) key, 1 ≤ kind ∧ kind ≤ 8 → valV kind start l c key = valR kind start ((dAll key l c 8).map toD) := fun kind start key hk => by
    unfold valV valE
    rw [if_neg (show ¬ (kind < 1 ∨ 8 < kind) by omega), if_pos hl, if_pos hc, if_pos rfl]
    rfl
  obtain ⟨-, -, m3⟩ := may_iff.1 (checkC_at h p hp)
  rw [e] at m3
  rcases m3 with ⟨k9, z1, z2, hj⟩ | ⟨k10, z1, z2, hj, hs⟩ | ⟨hk, -⟩
  · rw [conv_same (.inr (.inr (.inl k9)))]
    unfold holdB
    rw [if_neg (by omega), if_neg (by omega), if_pos k9]
    unfold joinsB at hj
    simp only [Bool.and_eq_true, decide_eq_true_eq] at hj
    unfold valK
    rw [conv_ruleR, conv_ruleR, conv_same (.inl hj.2.1), conv_same (.inl hj.2.2), hj.2.1, hj.2.2, hval _ _ _ (by omega), hval _ _ _ (by omega), valR_e3, valR_e3]
    refine List.all_eq_true.2 fun s hs => ?_
    exact memS_iff.2 (ref_holds hok hf hr k9 hs)
  · rw [conv_same (.inr (.inr (.inr k10)))]
    unfold holdB
    rw [if_neg (by omega), if_neg (by omega), if_neg (by omega), if_pos k10]
    unfold joinsB at hj
    simp only [Bool.and_eq_true, decide_eq_true_eq] at hj
    unfold valK
    rw [conv_ruleR, conv_ruleR, conv_same (.inr (.inl hj.2.1)), conv_same (.inr (.inl hj.2.2)), hj.2.1, hj.2.2, hval _ _ _ (by omega), hval _ _ _ (by omega), valR_on7, valR_on7]
    have hne : r.key ≠ r.other := fun q => by
      have := hj.1
      rw [eqS_iff.2 q] at this
      cases this
    exact either_holds hok hf hr k10 hne hs
  · have k2 : (convR r).k ≠ 2 ∧ (convR r).k ≠ 8 ∧ (convR r).k ≠ 9 ∧ (convR r).k ≠ 10 := by
      unfold convR
      split
      · refine ⟨?_, ?_, ?_, ?_⟩ <;> (show (1 : Int) ≠ _; decide)
      · split
        · refine ⟨?_, ?_, ?_, ?_⟩ <;> (show (3 : Int) ≠ _; decide)
        · refine ⟨by assumption, by assumption, by omega, by omega⟩
    unfold holdB
    rw [if_neg k2.1, if_neg k2.2.1, if_neg k2.2.2.1, if_neg k2.2.2.2]
end Go.Proofs.YtnjmgknicffcbaaGreatDoor
