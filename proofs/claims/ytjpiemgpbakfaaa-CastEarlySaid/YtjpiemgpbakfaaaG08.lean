/- Texts CutM, Opn, joined. -/
import Derived.Test.YtjpiemgpbakfaaaG06
import Derived.Test.YtjpiemgpbakfaaaG07
import Derived.Test.YtjpiemgpbakfaaaG01
import Derived.Deep.Slices
import Derived.Deep.Fields
import Derived.ChangeSame
import Derived.SizedLaws
import Derived.OpenShut
/- Mathematics of logs: when they may be, closed cuts, joins. -/
namespace Go.Proofs.Ytjpiemgpbakfaaa

abbrev LG := Nat → List TX
def sizeV (l : LG) : Nat → Nat := fun i => (l i).length
def lastS (l : LG) (v : Nat → Nat) (i : Nat) : Nat := if v i = 0 then 0 else match (l i)[v i - 1]? with | some t => t.stamp | none => 0
def stampTo (l : LG) (v : Nat → Nat) : Nat → Nat
  | 0 => 0
  | k + 1 => max (stampTo l v k) (lastS l v k)
/-- The stamp of a cut. -/
def stampV (l : LG) (v : Nat → Nat) : Nat := stampTo l v 8
def behindE (l : LG) (t : TX) : Nat := if leqB t.deps (sizeV l) = true then (if t.stamp ≤ stampV l t.deps then 80 else 0) else 90
def txE (l : LG) (i k : Nat) (t : TX) : Nat := if okTx t ∧ t.origin = (i : Int) ∧ t.seq = k + 1 then behindE l t else 80
def txAt (l : LG) (i k : Nat) : Nat := match (l i)[k]? with | some t => txE l i k t | none => 0
def logTo (l : LG) (i : Nat) : Nat → Nat
  | 0 => 0
  | k + 1 => if logTo l i k = 0 then txAt l i k else logTo l i k
def logsTo (l : LG) : Nat → Nat
  | 0 => 0
  | i + 1 => if logsTo l i = 0 then logTo l i (l i).length else logsTo l i
def longB (l : LG) : Bool := (List.range 8).any fun i => decide (1024 < (l i).length)
/-- What Check answers. -/
def checkE (l : LG) : Nat := if longB l = true then 2 else logsTo l 8
theorem longB_yes {l : LG} {i : Nat} (hi : i < 8) (h : 1024 < (l i).length) : longB l = true := by
  unfold longB
  rw [List.any_eq_true]
  exact ⟨i, List.mem_range.2 hi, decide_eq_true h⟩
theorem longB_no {l : LG} (h : ∀ i, i < 8 → (l i).length ≤ 1024) : longB l = false := by
  unfold longB
  rw [List.any_eq_false]
  intro i hi
  have := h i (List.mem_range.1 hi)
  simp only [decide_eq_true_eq]
  omega
theorem longB_le {l : LG} (h : longB l = false) {i : Nat} (hi : i < 8) : (l i).length ≤ 1024 := by
  rcases Nat.lt_or_ge 1024 (l i).length with h1 | h1
  · rw [longB_yes hi h1] at h; cases h
  · exact h1
theorem logTo_stay {l : LG} {i k e : Nat} (h : logTo l i k = e) (he : e ≠ 0) (d : Nat) : logTo l i (k + d) = e := by
  induction d with
  | zero => exact h
  | succ d ih =>
    have e1 : logTo l i (k + (d + 1)) = if logTo l i (k + d) = 0 then txAt l i (k + d) else logTo l i (k + d) := rfl
    rw [e1, ih, if_neg he]
theorem logsTo_stay {l : LG} {i e : Nat} (h : logsTo l i = e) (he : e ≠ 0) (d : Nat) : logsTo l (i + d) = e := by
  induction d with
  | zero => exact h
  | succ d ih =>
    have e1 : logsTo l (i + (d + 1)) = if logsTo l (i + d) = 0 then logTo l (i + d) (l (i + d)).length else logsTo l (i + d) := rfl
    rw [e1, ih, if_neg he]
theorem logTo_next {l : LG} {i k : Nat} (h : logTo l i k = 0) : logTo l i (k + 1) = txAt l i k := by
  show (if _ = 0 then _ else _) = _
  rw [if_pos h]
theorem logsTo_next {l : LG} {i : Nat} (h : logsTo l i = 0) : logsTo l (i + 1) = logTo l i (l i).length := by
  show (if _ = 0 then _ else _) = _
  rw [if_pos h]
theorem txAt_at {l : LG} {i k : Nat} {t : TX} (h : (l i)[k]? = some t) : txAt l i k = txE l i k t := by unfold txAt; rw [h]
/-- The first fault is told. -/
theorem checkE_at {l : LG} {i k e : Nat} {t : TX} (hl : longB l = false) (hi : i < 8) (ht : (l i)[k]? = some t) (h0 : logsTo l i = 0) (h1 : logTo l i k = 0) (h2 : txE l i k t = e) (he : e ≠ 0) : checkE l = e := by
  have hk : k < (l i).length := (List.getElem?_eq_some_iff.1 ht).1
  have e1 : logTo l i (k + 1) = e := by rw [logTo_next h1, txAt_at ht, h2]
  have e2 := logTo_stay e1 he ((l i).length - (k + 1))
  rw [show k + 1 + ((l i).length - (k + 1)) = (l i).length by omega] at e2
  have e3 : logsTo l (i + 1) = e := by rw [logsTo_next h0, e2]
  have e4 := logsTo_stay e3 he (8 - (i + 1))
  rw [show i + 1 + (8 - (i + 1)) = 8 by omega] at e4
  unfold checkE
  rw [hl]
  exact e4
theorem logTo_zero {l : LG} {i n : Nat} (h : logTo l i n = 0) : ∀ k t, k < n → (l i)[k]? = some t → txE l i k t = 0 := by
  induction n with
  | zero => intro k t hk; omega
  | succ n ih =>
    have h1 : logTo l i n = 0 := by
      rcases Nat.eq_zero_or_pos (logTo l i n) with e | e
      · exact e
      · have : logTo l i (n + 1) = logTo l i n := by show (if _ = 0 then _ else _) = _; rw [if_neg (by omega)]
        omega
    intro k t hk ht
    by_cases e : k = n
    · subst e
      rw [← txAt_at ht, ← logTo_next h1, h]
    · exact ih h1 k t (by omega) ht
theorem logTo_of {l : LG} {i n : Nat} (h : ∀ k t, k < n → (l i)[k]? = some t → txE l i k t = 0) : logTo l i n = 0 := by
  induction n with
  | zero => rfl
  | succ n ih =>
    rw [logTo_next (ih fun k t hk => h k t (by omega))]
    unfold txAt
    split
    · next t ht => exact h n t (by omega) ht
    · rfl
theorem logsTo_zero {l : LG} {n : Nat} (h : logsTo l n = 0) : ∀ i, i < n → logTo l i (l i).length = 0 := by
  induction n with
  | zero => intro i hi; omega
  | succ n ih =>
    have h1 : logsTo l n = 0 := by
      rcases Nat.eq_zero_or_pos (logsTo l n) with e | e
      · exact e
      · have : logsTo l (n + 1) = logsTo l n := by show (if _ = 0 then _ else _) = _; rw [if_neg (by omega)]
        omega
    intro i hi
    by_cases e : i = n
    · subst e; rw [← logsTo_next h1, h]
    · exact ih h1 i (by omega)
theorem logsTo_of {l : LG} {n : Nat} (h : ∀ i, i < n → logTo l i (l i).length = 0) : logsTo l n = 0 := by
  induction n with
  | zero => rfl
  | succ n ih => rw [logsTo_next (ih fun i hi => h i (by omega))]; exact h n (by omega)
/-- Logs may be. -/
structure OkL (l : LG) : Prop where
  len : ∀ i, i < 8 → (l i).length ≤ 1024
  tx : ∀ i k t, i < 8 → (l i)[k]? = some t → okTx t ∧ t.origin = (i : Int) ∧ t.seq = k + 1 ∧ leqB t.deps (sizeV l) = true ∧ stampV l t.deps < t.stamp
theorem txE_zero {l : LG} {i k : Nat} {t : TX} : txE l i k t = 0 ↔ okTx t ∧ t.origin = (i : Int) ∧ t.seq = k + 1 ∧ leqB t.deps (sizeV l) = true ∧ stampV l t.deps < t.stamp := by
  unfold txE behindE
  by_cases h : okTx t ∧ t.origin = (i : Int) ∧ t.seq = k + 1
  · rw [if_pos h]
    by_cases h2 : leqB t.deps (sizeV l) = true
    · rw [if_pos h2]
      by_cases h3 : t.stamp ≤ stampV l t.deps
      · rw [if_pos h3]
        exact ⟨fun e => by omega, fun ⟨_, _, _, _, e⟩ => by omega⟩
      · rw [if_neg h3]
        exact ⟨fun _ => ⟨h.1, h.2.1, h.2.2, h2, by omega⟩, fun _ => rfl⟩
    · rw [if_neg h2]
      exact ⟨fun e => by omega, fun ⟨_, _, _, e, _⟩ => absurd e h2⟩
  · rw [if_neg h]
    exact ⟨fun e => by omega, fun ⟨a, b, c, _⟩ => absurd ⟨a, b, c⟩ h⟩
theorem okL_iff {l : LG} : checkE l = 0 ↔ OkL l := by
  refine ⟨fun h => ?_, fun h => ?_⟩
  · unfold checkE at h
    rcases hl : longB l with _ | _
    · rw [hl] at h
      refine ⟨fun i hi => longB_le hl hi, fun i k t hi ht => txE_zero.1 ?_⟩
      exact logTo_zero (logsTo_zero h i hi) k t (List.getElem?_eq_some_iff.1 ht).1 ht
    · rw [hl, if_pos rfl] at h
      omega
  · unfold checkE
    rw [longB_no h.len]
    exact logsTo_of fun i hi => logTo_of fun k t _ ht => txE_zero.2 (h.tx i k t hi ht)
theorem stampTo_le {l : LG} {v : Nat → Nat} {n m : Nat} (h : ∀ i, i < n → lastS l v i ≤ m) : stampTo l v n ≤ m := by
  induction n with
  | zero => exact Nat.zero_le _
  | succ n ih =>
    have := ih fun i hi => h i (by omega)
    have := h n (by omega)
    show max _ _ ≤ _
    omega
theorem le_stampTo {l : LG} {v : Nat → Nat} {n i : Nat} (hi : i < n) : lastS l v i ≤ stampTo l v n := by
  induction n with
  | zero => omega
  | succ n ih =>
    show _ ≤ max _ _
    by_cases e : i = n
    · subst e; omega
    · have := ih (by omega)
      omega
theorem le_stampV {l : LG} {v : Nat → Nat} {i : Nat} (hi : i < 8) : lastS l v i ≤ stampV l v := le_stampTo hi
theorem stampTo_congr {l l' : LG} {v v' : Nat → Nat} {n : Nat} (h : ∀ i, i < n → lastS l v i = lastS l' v' i) : stampTo l v n = stampTo l' v' n := by
  induction n with
  | zero => rfl
  | succ n ih =>
    show max _ _ = max _ _
    rw [ih fun i hi => h i (by omega), h n (by omega)]
theorem lastS_at {l : LG} {v : Nat → Nat} {i d : Nat} {t : TX} (hv : v i = d + 1) (ht : (l i)[d]? = some t) : lastS l v i = t.stamp := by
  unfold lastS
  rw [if_neg (by omega), show v i - 1 = d by omega, ht]
theorem lastS_of {l l' : LG} {v : Nat → Nat} {i : Nat} (h : ∀ k, k < v i → (l i)[k]? = (l' i)[k]?) : lastS l v i = lastS l' v i := by
  unfold lastS
  by_cases e : v i = 0
  · rw [if_pos e, if_pos e]
  · rw [if_neg e, if_neg e, h _ (by omega)]
theorem stampV_of {l l' : LG} {v : Nat → Nat} (h : ∀ i k, i < 8 → k < v i → (l i)[k]? = (l' i)[k]?) : stampV l v = stampV l' v :=
  stampTo_congr fun i hi => lastS_of fun k hk => h i k hi hk
theorem lq {a b : Nat → Nat} (h : leqB a b = true) {i : Nat} (hi : i < 8) : a i ≤ b i := leqB_iff.1 h i hi
theorem lq_of {a b : Nat → Nat} (h : ∀ i, i < 8 → a i ≤ b i) : leqB a b = true := leqB_iff.2 h
theorem lq_trans {a b c : Nat → Nat} (h : leqB a b = true) (k : leqB b c = true) : leqB a c = true := lq_of fun _ hi => Nat.le_trans (lq h hi) (lq k hi)
theorem lq_refl (a : Nat → Nat) : leqB a a = true := lq_of fun _ _ => Nat.le_refl _
theorem OkL.own {l : LG} (h : OkL l) {i k : Nat} {t : TX} (hi : i < 8) (ht : (l i)[k]? = some t) : t.deps i = k := by
  obtain ⟨h1, h2, h3, _⟩ := h.tx i k t hi ht
  have := h1.1.2.2.2.2
  rw [h2, h3] at this
  simpa using this
/-- Stamps rise within a log. -/
theorem OkL.rise {l : LG} (h : OkL l) {i k : Nat} {t u : TX} (hi : i < 8) (ht : (l i)[k]? = some t) (hu : (l i)[k + 1]? = some u) : t.stamp < u.stamp := by
  have h1 := h.own hi hu
  have h2 := (h.tx i (k + 1) u hi hu).2.2.2.2
  have h3 := le_stampV (l := l) (v := u.deps) hi
  rw [lastS_at h1 ht] at h3
  omega
/-- What a transaction depends on has a smaller stamp. -/
theorem OkL.before {l : LG} (h : OkL l) {i j k d : Nat} {t u : TX} (hi : i < 8) (hj : j < 8) (ht : (l i)[k]? = some t) (hu : (l j)[d]? = some u) (hd : t.deps j = d + 1) : u.stamp < t.stamp := by
  have h2 := (h.tx i k t hi ht).2.2.2.2
  have h3 := le_stampV (l := l) (v := t.deps) hj
  rw [lastS_at hd hu] at h3
  omega
/-- The cut is within the logs, and closed. -/
def closedP (l : LG) (v : Nat → Nat) : Prop := leqB v (sizeV l) = true ∧ ∀ i k t, i < 8 → k < v i → (l i)[k]? = some t → leqB t.deps v = true
def closedB (l : LG) (v : Nat → Nat) : Bool := leqB v (sizeV l) && (List.range 8).all fun i => ((l i).take (v i)).all fun t => leqB t.deps v
theorem closedB_iff {l : LG} {v : Nat → Nat} : closedB l v = true ↔ closedP l v := by
  unfold closedB closedP
  rw [Bool.and_eq_true, List.all_eq_true]
  refine and_congr_right fun _ => ⟨fun h i k t hi hk ht => ?_, fun h i hi => ?_⟩
  · have := h i (List.mem_range.2 hi)
    rw [List.all_eq_true] at this
    exact this t (List.mem_of_getElem? (i := k) (by rw [List.getElem?_take_of_lt hk]; exact ht))
  · rw [List.all_eq_true]
    intro t ht
    obtain ⟨k, hk⟩ := List.mem_iff_getElem?.1 ht
    rcases Nat.lt_or_ge k (v i) with hlt | hge
    · rw [List.getElem?_take_of_lt hlt] at hk
      exact h i k t (List.mem_range.1 hi) hlt hk
    · rw [List.getElem?_eq_none (by rw [List.length_take]; omega)] at hk
      cases hk
theorem closed_jn {l : LG} {a b : Nat → Nat} (ha : closedP l a) (hb : closedP l b) : closedP l (jn a b) := by
  refine ⟨lq_of fun i hi => ?_, fun i k t hi hk ht => lq_of fun j hj => ?_⟩
  · have := lq ha.1 hi
    have := lq hb.1 hi
    show max _ _ ≤ _
    omega
  · show _ ≤ max _ _
    have hk : k < max (a i) (b i) := hk
    rcases Nat.lt_or_ge k (a i) with h | h
    · have := lq (ha.2 i k t hi h ht) hj
      omega
    · have := lq (hb.2 i k t hi (by omega) ht) hj
      omega
theorem closed_mt {l : LG} {a b : Nat → Nat} (ha : closedP l a) (hb : closedP l b) : closedP l (mt a b) := by
  refine ⟨lq_of fun i hi => ?_, fun i k t hi hk ht => lq_of fun j hj => ?_⟩
  · have := lq ha.1 hi
    show min _ _ ≤ _
    omega
  · show _ ≤ min _ _
    have hk : k < min (a i) (b i) := hk
    have := lq (ha.2 i k t hi (by omega) ht) hj
    have := lq (hb.2 i k t hi (by omega) ht) hj
    omega
/-- c is the greatest closed cut within v. -/
structure IsClose (l : LG) (v c : Nat → Nat) : Prop where
  closed : closedP l c
  within : leqB c v = true
  great : ∀ u, closedP l u → leqB u v = true → leqB u c = true
theorem closed_zero (l : LG) : closedP l (fun _ => 0) := ⟨lq_of fun _ _ => Nat.zero_le _, fun _ _ _ _ hk => absurd hk (Nat.not_lt_zero _)⟩
theorem okL_closed {l : LG} (h : OkL l) : closedP l (sizeV l) := ⟨lq_refl _, fun i k t hi _ ht => (h.tx i k t hi ht).2.2.2.1⟩
/-- The logs' beginnings. -/
def pre (l : LG) (c : Nat → Nat) : LG := fun i => (l i).take (c i)
theorem pre_at {l : LG} {c : Nat → Nat} {i k : Nat} (h : k < c i) : (pre l c i)[k]? = (l i)[k]? := List.getElem?_take_of_lt h
theorem pre_size {l : LG} {c : Nat → Nat} (h : leqB c (sizeV l) = true) {i : Nat} (hi : i < 8) : (pre l c i).length = c i := by
  have : c i ≤ (l i).length := lq h hi
  unfold pre
  rw [List.length_take]
  omega
theorem okL_pre {l : LG} {c : Nat → Nat} (h : OkL l) (hc : closedP l c) : OkL (pre l c) := by
  refine ⟨fun i hi => ?_, fun i k t hi ht => ?_⟩
  · have := h.len i hi
    unfold pre
    rw [List.length_take]
    omega
  · have hk : k < c i := by
      rw [← pre_size hc.1 hi]
      exact (List.getElem?_eq_some_iff.1 ht).1
    rw [pre_at hk] at ht
    obtain ⟨h1, h2, h3, h4, h5⟩ := h.tx i k t hi ht
    have hd := hc.2 i k t hi hk ht
    refine ⟨h1, h2, h3, lq_of fun j hj => ?_, ?_⟩
    · show _ ≤ (pre l c j).length
      rw [pre_size hc.1 hj]
      exact lq hd hj
    · rw [stampV_of (l' := l) fun j d hj hd2 => pre_at (Nat.lt_of_lt_of_le hd2 (lq hd hj))]
      exact h5
theorem okL_congr {l l' : LG} (h : OkL l) (e : ∀ i, i < 8 → l i = l' i) : OkL l' := by
  refine ⟨fun i hi => by rw [← e i hi]; exact h.len i hi, fun i k t hi ht => ?_⟩
  rw [← e i hi] at ht
  obtain ⟨h1, h2, h3, h4, h5⟩ := h.tx i k t hi ht
  refine ⟨h1, h2, h3, lq_of fun j hj => ?_, ?_⟩
  · have := lq h4 hj
    show _ ≤ (l' j).length
    rw [← e j hj]
    exact this
  · rw [← stampV_of (l := l) (l' := l') fun j d hj _ => by rw [e j hj]]
    exact h5
/-- Of each member the longer log. -/
def jnL (a b : LG) : LG := fun i => if (a i).length < (b i).length then b i else a i
def compat (a b : LG) : Prop := ∀ i, i < 8 → (a i).take (b i).length = (b i).take (a i).length
theorem compat_symm {a b : LG} (h : compat a b) : compat b a := fun i hi => (h i hi).symm
theorem jnL_size (a b : LG) (i : Nat) : (jnL a b i).length = max (a i).length (b i).length := by
  unfold jnL
  split <;> omega
theorem jnL_comm {a b : LG} (h : compat a b) {i : Nat} (hi : i < 8) : jnL a b i = jnL b a i := by
  have h1 := h i hi
  unfold jnL
  by_cases e : (a i).length < (b i).length
  · rw [if_pos e, if_neg (by omega)]
  · by_cases e2 : (b i).length < (a i).length
    · rw [if_neg e, if_pos e2]
    · rw [if_neg e, if_neg e2]
      rw [List.take_of_length_le (by omega), List.take_of_length_le (by omega)] at h1
      exact h1
theorem jnL_left {a b : LG} (h : compat a b) {i k : Nat} (hi : i < 8) (hk : k < (a i).length) : (jnL a b i)[k]? = (a i)[k]? := by
  have h1 := h i hi
  unfold jnL
  by_cases e : (a i).length < (b i).length
  · rw [if_pos e]
    rw [List.take_of_length_le (by omega)] at h1
    rw [h1, List.getElem?_take_of_lt hk]
  · rw [if_neg e]
theorem jnL_right {a b : LG} (h : compat a b) {i k : Nat} (hi : i < 8) (hk : k < (b i).length) : (jnL a b i)[k]? = (b i)[k]? := by
  rw [jnL_comm h hi]
  exact jnL_left (compat_symm h) hi hk
theorem jnL_self (a : LG) : jnL a a = a := by
  funext i
  unfold jnL
  split <;> rfl
theorem okL_jn {a b : LG} (ha : OkL a) (hb : OkL b) (h : compat a b) : OkL (jnL a b) := by
  have one : ∀ {a b j : LG} (_ : OkL a) (_ : ∀ i k, i < 8 → k < (a i).length → (j i)[k]? = (a i)[k]?) (_ : ∀ i, i < 8 → (a i).length ≤ (j i).length) {i k : Nat} {t : TX} (_ : i < 8) (_ : (a i)[k]? = some t), okTx t ∧ t.origin = (i : Int) ∧ t.seq = k + 1 ∧ leqB t.deps (sizeV j) = true ∧ stampV j t.deps < t.stamp := by
    intro a b j ha hj hl i k t hi ht
    obtain ⟨h1, h2, h3, h4, h5⟩ := ha.tx i k t hi ht
    refine ⟨h1, h2, h3, lq_of fun m hm => Nat.le_trans (lq h4 hm) (hl m hm), ?_⟩
    rw [stampV_of (l' := a) fun m d hm hd => hj m d hm (Nat.lt_of_lt_of_le hd (lq h4 hm))]
    exact h5
  refine ⟨fun i hi => ?_, fun i k t hi ht => ?_⟩
  · rw [jnL_size]
    have := ha.len i hi
    have := hb.len i hi
    omega
  · have hk : k < (jnL a b i).length := (List.getElem?_eq_some_iff.1 ht).1
    rw [jnL_size] at hk
    rcases Nat.lt_or_ge k (a i).length with h1 | h1
    · refine one (b := b) ha (fun i k hi hk => jnL_left h hi hk) (fun i _ => by rw [jnL_size]; omega) hi ?_
      rw [← jnL_left h hi h1]; exact ht
    · refine one (b := a) hb (fun i k hi hk => jnL_right h hi hk) (fun i _ => by rw [jnL_size]; omega) hi ?_
      rw [← jnL_right h hi (by omega)]; exact ht
theorem compat_pre (l : LG) {c d : Nat → Nat} (hc : leqB c (sizeV l) = true) (hd : leqB d (sizeV l) = true) : compat (pre l c) (pre l d) := by
  intro i hi
  rw [pre_size hc hi, pre_size hd hi]
  unfold pre
  rw [List.take_take, List.take_take, Nat.min_comm]
theorem jnL_pre (l : LG) {c d : Nat → Nat} (hc : leqB c (sizeV l) = true) (hd : leqB d (sizeV l) = true) {i : Nat} (hi : i < 8) : jnL (pre l c) (pre l d) i = pre l (jn c d) i := by
  unfold jnL
  rw [pre_size hc hi, pre_size hd hi]
  unfold pre jn
  by_cases e : c i < d i
  · rw [if_pos e, Nat.max_eq_right (by omega)]
  · rw [if_neg e, Nat.max_eq_left (by omega)]
/-- One transaction more at the end of a log. -/
def addL (l : LG) (i : Nat) (t : TX) : LG := fun j => if j = i then l i ++ [t] else l j
theorem addL_at {l : LG} {i : Nat} {t : TX} {j k : Nat} (hk : k < (l j).length) : (addL l i t j)[k]? = (l j)[k]? := by
  unfold addL
  by_cases e : j = i
  · subst e
    rw [if_pos rfl, List.getElem?_append_left hk]
  · rw [if_neg e]
theorem addL_size (l : LG) (i : Nat) (t : TX) (j : Nat) : (addL l i t j).length = if j = i then (l i).length + 1 else (l j).length := by
  unfold addL
  by_cases e : j = i
  · rw [if_pos e, if_pos e]; simp
  · rw [if_neg e, if_neg e]
theorem addL_le (l : LG) (i : Nat) (t : TX) (j : Nat) : (l j).length ≤ (addL l i t j).length := by
  rw [addL_size]
  split
  · next e => subst e; omega
  · omega
theorem behind_zero {l : LG} {t : TX} (h : behindE l t = 0) : leqB t.deps (sizeV l) = true ∧ stampV l t.deps < t.stamp := by
  unfold behindE at h
  by_cases h2 : leqB t.deps (sizeV l) = true
  · rw [if_pos h2] at h
    by_cases h3 : t.stamp ≤ stampV l t.deps
    · rw [if_pos h3] at h; omega
    · exact ⟨h2, by omega⟩
  · rw [if_neg h2] at h; omega
/-- The place of what may be added. -/
theorem add_place {l : LG} {t : TX} (ht : okTx t) {i : Nat} (hi : t.origin = (i : Int)) (h8 : i < 8) (hs : (l i).length < t.seq) (hb : behindE l t = 0) : t.seq = (l i).length + 1 := by
  have h1 := ht.1.2.2.2.2
  have h2 : t.deps i ≤ (l i).length := lq (behind_zero hb).1 h8
  have h3 := ht.1.2.2.1
  rw [hi] at h1
  simp only [Int.toNat_natCast] at h1
  omega
theorem okL_add {l : LG} {t : TX} (h : OkL l) (ht : okTx t) {i : Nat} (hi : t.origin = (i : Int)) (h8 : i < 8) (hs : (l i).length < t.seq) (hb : behindE l t = 0) (hf : (l i).length < 1024) : OkL (addL l i t) := by
  have hq := add_place ht hi h8 hs hb
  have hz := behind_zero hb
  refine ⟨fun j hj => ?_, fun j k u hj hu => ?_⟩
  · have := h.len j hj
    rw [addL_size]
    split <;> omega
  · have up : ∀ u : TX, leqB u.deps (sizeV l) = true → stampV l u.deps < u.stamp → leqB u.deps (sizeV (addL l i t)) = true ∧ stampV (addL l i t) u.deps < u.stamp := fun u h1 h2 =>
      ⟨lq_of fun m hm => Nat.le_trans (lq h1 hm) (addL_le l i t m), by
        rw [stampV_of (l' := l) fun m d hm hd => addL_at (Nat.lt_of_lt_of_le hd (lq h1 hm))]
        exact h2⟩
    have hk : k < (addL l i t j).length := (List.getElem?_eq_some_iff.1 hu).1
    rw [addL_size] at hk
    rcases Nat.lt_or_ge k (l j).length with h1 | h1
    · rw [addL_at h1] at hu
      obtain ⟨a1, a2, a3, a4, a5⟩ := h.tx j k u hj hu
      exact ⟨a1, a2, a3, up u a4 a5⟩
    · by_cases e : j = i
      · subst e
        rw [if_pos rfl] at hk
        obtain rfl : k = (l j).length := by omega
        unfold addL at hu
        rw [if_pos rfl, List.getElem?_append_right (Nat.le_refl _), Nat.sub_self] at hu
        injection hu with hu
        subst hu
        exact ⟨ht, hi, hq, up t hz.1 hz.2⟩
      · rw [if_neg e] at hk
        omega
theorem compat_add (l : LG) (i : Nat) (t : TX) : compat l (addL l i t) := by
  intro j _
  have hl := addL_le l i t j
  rw [List.take_of_length_le hl]
  refine List.ext_getElem? fun k => ?_
  rcases Nat.lt_or_ge k (l j).length with h | h
  · rw [List.getElem?_take_of_lt h, addL_at h]
  · rw [List.getElem?_eq_none h, List.getElem?_eq_none (by rw [List.length_take]; omega)]
theorem jnL_add (l : LG) (i : Nat) (t : TX) : jnL l (addL l i t) = addL l i t := by
  funext j
  unfold jnL
  rw [addL_size]
  by_cases e : j = i
  · subst e; rw [if_pos rfl, if_pos (by omega)]
  · rw [if_neg e, if_neg (by omega)]
    unfold addL
    rw [if_neg e]
end Go.Proofs.Ytjpiemgpbakfaaa
/- Arguments opened: rows of structs, and how long they are. -/
namespace Go.Proofs.Ytjpiemgpbakfaaa
open Go.ChangeShapes Go.WideShapes Go.RowKit Go.Deep

theorem list_of {α : Type} {R : Nat → α → Prop} : ∀ n, (∀ i, i < n → ∃ x, R i x) → ∃ L : List α, L.length = n ∧ ∀ j (hj : j < L.length), R j L[j]
  | 0, _ => ⟨[], rfl, fun j hj => absurd hj (by simp)⟩
  | n + 1, h => by
    obtain ⟨L, hl, hr⟩ := list_of n (fun i hi => h i (by omega))
    obtain ⟨x, hx⟩ := h n (Nat.lt_succ_self n)
    refine ⟨L ++ [x], by rw [List.length_append, hl]; rfl, fun j hj => ?_⟩
    rw [List.length_append, List.length_singleton, hl] at hj
    by_cases e : j < L.length
    · rw [List.getElem_append_left e]; exact hr j e
    · obtain rfl : j = n := by omega
      rw [List.getElem_append_right (by omega)]
      simp only [hl, Nat.sub_self, List.getElem_cons_zero]
      exact hx
theorem weightsAll_mem {H : Type} {P : Program} {e : TypeId} {d : DataW H} {l : List (DataW H)} (h : d ∈ l) {n : Nat} (hn : n ∈ DataW.weights P e d) : n ∈ DataW.weightsAll P e l := by
  induction l with
  | nil => cases h
  | cons x r ih =>
    simp only [DataW.weightsAll, List.mem_append]
    rcases List.mem_cons.1 h with rfl | h
    · exact .inl hn
    · exact .inr (ih h)
/-- A struct of one-cell fields among a row's elements. -/
theorem open_row {H : Type} {enc : TypeId × Value → H} {P : Program} {w : World} {base : Nat} {sp : Nat → Bool} {held : Bool} {e : TypeId} {fs : Array Field} {m k : Nat} {ad : Addr} {cs : List Value} {x : DataW H × List MemPlace}
    (he : P.underlying e = some (.struct fs)) (hone : oneCellFields P fs = true) (_hk : P.cellsOf e = k) (hc : w.cells? base ad k = some cs) (ht : DataW.trod enc P w base sp held m e cs = some x) :
    ∃ (ys : List (DataW H × List MemPlace)) (n : Nat), x.1 = .agg (ys.map (·.1)) ∧ ys.length = fs.size ∧
      ∀ j f, fs[j]? = some f → j < k → ∃ (v : Value) (y : DataW H × List MemPlace), w.cell? (ad.add j) = some v ∧ ys[j]? = some y ∧ DataW.trod enc P w base sp held n f.type [v] = some y := by
  obtain ⟨_, hl, hat⟩ := World.cells?_some hc
  obtain ⟨ys, n, _, hx, _, hyl, hf⟩ := DataW.trod_struct he ht
  refine ⟨ys, n, by rw [hx], hyl, fun j f hj hjk => ?_⟩
  obtain ⟨ho, hc1⟩ := hone_of hone j f hj
  have hjy : j < ys.length := by rw [hyl]; exact (Array.getElem?_eq_some_iff.1 hj).1
  have h1 := hf j f hj
  rw [ho, hc1, List.drop_eq_getElem_cons (show j < cs.length by omega), List.getElem?_eq_getElem hjy] at h1
  refine ⟨cs[j]'(by omega), ys[j], ?_, List.getElem?_eq_getElem hjy, h1⟩
  rw [hat j (by omega), List.getElem?_eq_getElem (by omega)]

/-- The first element's place says that the slice lies in cells. -/
theorem spot_of {w : World} {base k : Nat} {a : Addr} {len : Nat} {R : Nat → List Value → Prop} (hk : 0 < k) (hi : ∀ i, i < len → ∃ cs, w.cells? base (a.add (i * k)) k = some cs ∧ R i cs) (h0 : 0 < len) : a.spot = none := by
  obtain ⟨cs, hc, _⟩ := hi 0 h0
  obtain ⟨_, hl, hat⟩ := World.cells?_some hc
  have h := hat 0 hk
  rw [List.getElem?_eq_getElem (show 0 < cs.length by omega)] at h
  have := World.cell?_spot h
  simpa [Addr.add] using this
theorem reach_is : reachBytes = 140737488351232 := rfl
end Go.Proofs.Ytjpiemgpbakfaaa
