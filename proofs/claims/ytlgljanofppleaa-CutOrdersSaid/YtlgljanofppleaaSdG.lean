/- Mathematics: the order of a closed cut's transactions: each once, behind all that it depends on. -/
import Derived.Test.YtlgljanofppleaaSdF
import Derived.Test.YtlgljanofppleaaCutK
namespace Go.Proofs.Ytlgljanofppleaa
open Go.RowKit Go.Joins

theorem sLog_mem {l : LG} {i : Nat} {p : TX × Nat × Nat} : ∀ {d : Nat}, p ∈ sLog l i d ↔ ∃ k t, k < d ∧ (l i)[k]? = some t ∧ p = (t, i, k)
  | 0 => ⟨fun h => (by cases h), fun ⟨k, _, h, _⟩ => absurd h (Nat.not_lt_zero _)⟩
  | d + 1 => by
    unfold sLog
    rw [List.mem_append, sLog_mem]
    refine ⟨fun h => ?_, fun ⟨k, t, hk, ht, hp⟩ => ?_⟩
    · rcases h with ⟨k, t, hk, ht, hp⟩ | h
      · exact ⟨k, t, by omega, ht, hp⟩
      · split at h
        · next t ht =>
          simp only [List.mem_singleton] at h
          exact ⟨d, t, Nat.lt_succ_self _, ht, h⟩
        · cases h
    · by_cases e : k = d
      · subst e
        right
        rw [ht]
        simp [hp]
      · exact .inl ⟨k, t, by omega, ht, hp⟩
theorem sAll_mem {l : LG} {v : Nat → Nat} {p : TX × Nat × Nat} : ∀ {i : Nat}, p ∈ sAll l v i ↔ ∃ m k t, m < i ∧ k < v m ∧ (l m)[k]? = some t ∧ p = (t, m, k)
  | 0 => ⟨fun h => (by cases h), fun ⟨m, _, _, h, _⟩ => absurd h (Nat.not_lt_zero _)⟩
  | i + 1 => by
    unfold sAll
    rw [List.mem_append, sAll_mem, sLog_mem]
    refine ⟨fun h => ?_, fun ⟨m, k, t, hm, hk, ht, hp⟩ => ?_⟩
    · rcases h with ⟨m, k, t, hm, hk, ht, hp⟩ | ⟨k, t, hk, ht, hp⟩
      · exact ⟨m, k, t, by omega, hk, ht, hp⟩
      · exact ⟨i, k, t, Nat.lt_succ_self _, hk, ht, hp⟩
    · by_cases e : m = i
      · subst e; exact .inr ⟨k, t, hk, ht, hp⟩
      · exact .inl ⟨m, k, t, by omega, hk, ht, hp⟩
def ofM (j : Nat) (p : TX × Nat × Nat) : Bool := decide (p.2.1 = j)
theorem sLog_of {l : LG} {i : Nat} (d : Nat) : (sLog l i d).filter (ofM i) = sLog l i d := List.filter_eq_self.2 fun p hp => by
  obtain ⟨k, t, _, _, rfl⟩ := sLog_mem.1 hp
  exact decide_eq_true rfl
theorem sLog_other {l : LG} {i j : Nat} (h : i ≠ j) (d : Nat) : (sLog l i d).filter (ofM j) = [] := List.filter_eq_nil_iff.2 fun p hp => by
  obtain ⟨k, t, _, _, rfl⟩ := sLog_mem.1 hp
  simp [ofM, h]
theorem sAll_past {l : LG} {v : Nat → Nat} {j : Nat} : ∀ {i : Nat}, i ≤ j → (sAll l v i).filter (ofM j) = []
  | 0, _ => rfl
  | i + 1, h => by
    unfold sAll
    rw [List.filter_append, sAll_past (by omega), sLog_other (by omega)]
    rfl
theorem sAll_of {l : LG} {v : Nat → Nat} {j : Nat} : ∀ {i : Nat}, j < i → (sAll l v i).filter (ofM j) = sLog l j (v j)
  | 0, h => absurd h (Nat.not_lt_zero _)
  | i + 1, h => by
    unfold sAll
    rw [List.filter_append]
    by_cases e : i = j
    · subst e
      rw [sAll_past (Nat.le_refl _), sLog_of]
      rfl
    · rw [sAll_of (by omega), sLog_other e, List.append_nil]
theorem sLog_length {l : LG} {i : Nat} : ∀ {d : Nat}, d ≤ (l i).length → (sLog l i d).length = d
  | 0, _ => rfl
  | d + 1, h => by
    rw [sLog_at (List.getElem?_eq_getElem (by omega)), List.length_append, sLog_length (by omega)]
    rfl
theorem sLog_get {l : LG} {i : Nat} : ∀ {d p : Nat} {x : TX × Nat × Nat}, d ≤ (l i).length → (sLog l i d)[p]? = some x → x.2.2 = p
  | 0, p, x, _, h => by simp [sLog] at h
  | d + 1, p, x, hd, h => by
    rw [sLog_at (List.getElem?_eq_getElem (by omega))] at h
    by_cases e : p < d
    · rw [List.getElem?_append_left (by rw [sLog_length (by omega)]; exact e)] at h
      exact sLog_get (by omega) h
    · rw [List.getElem?_append_right (by rw [sLog_length (by omega)]; omega), sLog_length (by omega)] at h
      have hp : p = d := by
        have := (List.getElem?_eq_some_iff.1 h).1
        simp at this
        omega
      subst hp
      rw [Nat.sub_self] at h
      injection h with h
      rw [← h]
/-- Stamps rise within a log, however far. -/
theorem OkL.rises {l : LG} (h : OkL l) {i : Nat} (hi : i < 8) {k : Nat} {t : TX} (ht : (l i)[k]? = some t) : ∀ (d : Nat) {u : TX}, (l i)[k + 1 + d]? = some u → t.stamp < u.stamp
  | 0, u, hu => h.rise hi ht hu
  | d + 1, u, hu => by
    have hlt : k + 1 + (d + 1) < (l i).length := (List.getElem?_eq_some_iff.1 hu).1
    have h1 := h.rises hi ht d (List.getElem?_eq_getElem (show k + 1 + d < (l i).length by omega))
    have h2 := h.rise hi (List.getElem?_eq_getElem (show k + 1 + d < (l i).length by omega)) (show (l i)[k + 1 + d + 1]? = some u from hu)
    omega
theorem ltP_stamp {p q : TX × Nat × Nat} (h : p.1.stamp < q.1.stamp) : ltP p q := by
  unfold ltP keyP
  rw [lexZ_cons]
  exact .inl (by omega)
section
variable {l : LG} {c : Nat → Nat} {Q : List (TX × Nat × Nat)}
theorem ordQ_mem (hq : OrdQ l c Q) (hc : leqB c (sizeV l) = true) {p : TX × Nat × Nat} : p ∈ Q ↔ ∃ m k t, m < 8 ∧ k < c m ∧ (l m)[k]? = some t ∧ p = (t, m, k) := by
  rw [hq.1.mem_iff, sAll_mem]
  refine ⟨fun ⟨m, k, t, hm, hk, ht, hp⟩ => ⟨m, k, t, hm, Nat.lt_of_lt_of_le hk (Nat.min_le_left _ _), ht, hp⟩, fun ⟨m, k, t, hm, hk, ht, hp⟩ => ⟨m, k, t, hm, ?_, ht, hp⟩⟩
  have := lq hc hm
  show k < min (c m) (sizeV l m)
  omega
/-- Of each member the transactions stand in the log's order. -/
theorem ordQ_of (ok : OkL l) (hq : OrdQ l c Q) (hc : leqB c (sizeV l) = true) {j : Nat} (hj : j < 8) : Q.filter (ofM j) = sLog l j (c j) := by
  have hp : (Q.filter (ofM j)).Perm (sLog l j (c j)) := by
    have h1 := hq.1.filter (ofM j)
    rw [sAll_of hj] at h1
    have h2 : mt c (sizeV l) j = c j := Nat.min_eq_left (lq hc hj)
    rw [h2] at h1
    exact h1
  refine List.Perm.eq_of_pairwise (le := fun p q : TX × Nat × Nat => p.2.2 ≤ q.2.2) (fun a b ha hb h1 h2 => ?_) ?_ ?_ hp
  · obtain ⟨k, t, _, ht, rfl⟩ := sLog_mem.1 (hp.mem_iff.1 ha)
    obtain ⟨k', t', _, ht', rfl⟩ := sLog_mem.1 hb
    have e : k = k' := by
      have h1 : k ≤ k' := h1
      have h2 : k' ≤ k := h2
      omega
    subst e
    rw [ht] at ht'
    injection ht' with e
    rw [e]
  · refine List.Pairwise.imp_of_mem ?_ (hq.2.filter (ofM j))
    intro a b ha hb hab
    obtain ⟨k, t, _, ht, rfl⟩ := sLog_mem.1 (hp.mem_iff.1 ha)
    obtain ⟨k', t', _, ht', rfl⟩ := sLog_mem.1 (hp.mem_iff.1 hb)
    show k ≤ k'
    rcases Nat.lt_or_ge k' k with h | h
    · exfalso
      refine hab (ltP_stamp ?_)
      have e : k = k' + 1 + (k - (k' + 1)) := by omega
      rw [e] at ht
      exact ok.rises hj ht' (k - (k' + 1)) ht
    · exact h
  · rw [List.pairwise_iff_getElem]
    intro a b ha hb hab
    have hcl : c j ≤ (l j).length := lq hc hj
    have e1 := sLog_get hcl (List.getElem?_eq_getElem ha)
    have e2 := sLog_get hcl (List.getElem?_eq_getElem hb)
    omega
/-- How many of the first i are member j's. -/
def cntQ (Q : List (TX × Nat × Nat)) (i j : Nat) : Nat := ((Q.take i).filter (ofM j)).length
theorem cntQ_zero (j : Nat) : cntQ Q 0 j = 0 := rfl
theorem cntQ_next {i : Nat} {p : TX × Nat × Nat} (h : Q[i]? = some p) : cntQ Q (i + 1) = upd (cntQ Q i) p.2.1 (cntQ Q i p.2.1 + 1) := by
  funext j
  have e : cntQ Q (i + 1) j = cntQ Q i j + (if ofM j p = true then 1 else 0) := by
    unfold cntQ
    rw [List.take_add_one, h, List.filter_append, List.length_append]
    simp only [Option.toList, List.filter_cons, List.filter_nil]
    split <;> simp
  rw [e]
  unfold upd ofM
  by_cases q : j = p.2.1
  · subst q; simp
  · rw [if_neg q, if_neg (by simp only [decide_eq_true_eq]; exact fun x => q x.symm)]
    rfl
theorem cntQ_mono {i i' j : Nat} (h : i ≤ i') : cntQ Q i j ≤ cntQ Q i' j := by
  unfold cntQ
  have e : Q.take i = (Q.take i').take i := by rw [List.take_take, Nat.min_eq_left h]
  rw [e]
  exact ((List.take_sublist i (Q.take i')).filter (ofM j)).length_le
theorem cntQ_all (ok : OkL l) (hq : OrdQ l c Q) (hc : leqB c (sizeV l) = true) {j : Nat} (hj : j < 8) : cntQ Q Q.length j = c j := by
  unfold cntQ
  rw [List.take_length, ordQ_of ok hq hc hj, sLog_length (lq hc hj)]
/-- A transaction's place in its log is how many of its member's stand ahead of it. -/
theorem cntQ_at (ok : OkL l) (hq : OrdQ l c Q) (hc : leqB c (sizeV l) = true) {i : Nat} {p : TX × Nat × Nat} (h : Q[i]? = some p) : p.2.2 = cntQ Q i p.2.1 := by
  obtain ⟨m, k, t, hm, hk, ht, rfl⟩ := (ordQ_mem hq hc).1 (List.mem_of_getElem? h)
  have hF := ordQ_of ok hq hc hm
  have hsp : Q = Q.take i ++ (t, m, k) :: Q.drop (i + 1) := by
    have hi := (List.getElem?_eq_some_iff.1 h).1
    have e := (List.getElem?_eq_some_iff.1 h).2
    rw [← e, List.getElem_cons_drop, List.take_append_drop]
  have hF2 : (Q.take i).filter (ofM m) ++ (t, m, k) :: (Q.drop (i + 1)).filter (ofM m) = sLog l m (c m) := by
    rw [← hF]
    conv => rhs; rw [hsp]
    rw [List.filter_append, List.filter_cons, if_pos (show ofM m (t, m, k) = true from decide_eq_true rfl)]
  have hg : (sLog l m (c m))[cntQ Q i m]? = some (t, m, k) := by
    rw [← hF2]
    unfold cntQ
    rw [List.getElem?_append_right (Nat.le_refl _), Nat.sub_self]
    rfl
  exact sLog_get (lq hc hm) hg
/-- What a transaction depends on stands ahead of it. -/
theorem cntQ_deps (ok : OkL l) (hq : OrdQ l c Q) (hc : closedP l c) {i : Nat} {p : TX × Nat × Nat} (h : Q[i]? = some p) : leqB p.1.deps (cntQ Q i) = true := by
  obtain ⟨m, k, t, hm, hk, ht, rfl⟩ := (ordQ_mem hq hc.1).1 (List.mem_of_getElem? h)
  refine lq_of fun j hj => ?_
  show t.deps j ≤ _
  cases hd : t.deps j with
  | zero => exact Nat.zero_le _
  | succ d =>
    have h1 : t.deps j ≤ c j := lq (hc.2 m k t hm hk ht) hj
    have hl : c j ≤ (l j).length := lq hc.1 hj
    have hx : (l j)[d]? = some ((l j)[d]'(by omega)) := List.getElem?_eq_getElem (by omega)
    have hs := ok.before hm hj ht hx hd
    have hmem : (((l j)[d]'(by omega)), j, d) ∈ Q := (ordQ_mem hq hc.1).2 ⟨j, d, _, hj, by omega, hx, rfl⟩
    obtain ⟨i2, hi2⟩ := List.mem_iff_getElem?.1 hmem
    have hlt : i2 < i := by
      rcases Nat.lt_trichotomy i2 i with q | q | q
      · exact q
      · subst q
        rw [h] at hi2
        injection hi2 with e
        have e1 : t = (l j)[d]'(by omega) := congrArg (·.1) e
        rw [← e1] at hs
        omega
      · exfalso
        have hi := (List.getElem?_eq_some_iff.1 h)
        have hj2 := (List.getElem?_eq_some_iff.1 hi2)
        have hsp := List.pairwise_iff_getElem.1 hq.2 i i2 hi.1 hj2.1 q
        rw [hi.2, hj2.2] at hsp
        exact hsp (ltP_stamp hs)
    have h2 := cntQ_at ok hq hc.1 hi2
    have h3 : cntQ Q (i2 + 1) j = cntQ Q i2 j + 1 := by
      rw [cntQ_next hi2]
      unfold upd
      rw [if_pos rfl]
    have h4 := cntQ_mono (Q := Q) (i := i2 + 1) (i' := i) (j := j) hlt
    have h5 : d = cntQ Q i2 j := h2
    omega
end
end Go.Proofs.Ytlgljanofppleaa
