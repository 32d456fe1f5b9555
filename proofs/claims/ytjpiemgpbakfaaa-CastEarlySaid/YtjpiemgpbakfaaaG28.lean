/- Texts CaM, joined. -/
import Derived.Test.YtjpiemgpbakfaaaG27
/- Mathematics of delivery: what comes in, in whatever order; the inbox's invariants. -/
namespace Go.Proofs.Ytjpiemgpbakfaaa
set_option linter.unusedSimpArgs false
set_option linter.unusedVariables false

abbrev IB := LG × List TX
/-- What hold answers. -/
def holdR (s : IB) (t : TX) : IB × Nat :=
  match s.2[plcT t s.2]? with
  | some x => if numT x t = true then (if sameT x t = true then (s, 0) else ((nilL, []), 91)) else if 64 ≤ s.2.length then ((nilL, []), 4) else ((s.1, s.2.insertIdx (plcT t s.2) t), 0)
  | none => if 64 ≤ s.2.length then ((nilL, []), 4) else ((s.1, s.2.insertIdx (plcT t s.2) t), 0)
/-- What Receive answers: an inbox, how many were delivered, an error's number. -/
def recvR (s : IB) (t : TX) : IB × Int × Nat :=
  if (addR s.1 t).1 = 0 then (setN (s.2.length + 1) (addR s.1 t).2 s.2, (cntL (setN (s.2.length + 1) (addR s.1 t).2 s.2).1 : Int) - (cntL s.1 : Int), 0)
  else if (addR s.1 t).1 = 90 then ((holdR s t).1, 0, (holdR s t).2)
  else ((nilL, []), 0, (addR s.1 t).1)
/-- The inbox behind a transaction; as it was, if that is refused. -/
def rcd (s : IB) (t : TX) : IB := if (recvR s t).2.2 = 0 then (recvR s t).1 else s
theorem cntTo_add (l : LG) (i : Nat) (t : TX) : ∀ k, cntTo (addL l i t) k = cntTo l k + if i < k then 1 else 0
  | 0 => by simp [cntTo]
  | k + 1 => by
    show cntTo (addL l i t) k + (addL l i t k).length = cntTo l k + (l k).length + _
    rw [cntTo_add l i t k, addL_size]
    by_cases h : k = i
    · subst h; rw [if_pos rfl, if_neg (Nat.lt_irrefl _), if_pos (by omega)]
      omega
    · rw [if_neg h]
      by_cases h2 : i < k
      · rw [if_pos h2, if_pos (by omega)]; omega
      · rw [if_neg h2, if_neg (by omega)]; omega
/-- What Add leaves, where it answers OK: the logs, or one more in the log of its origin. -/
theorem addR_ok {l : LG} {t : TX} (h : (addR l t).1 = 0) : okTx t ∧ ∃ i : Nat, i < 8 ∧ t.origin = (i : Int) ∧ (((addR l t).2 = l ∧ t.seq ≤ (l i).length ∧ ∃ x, (l i)[t.seq - 1]? = some x ∧ sameT x t = true) ∨ ((addR l t).2 = addL l i t ∧ (l i).length < t.seq ∧ behindE l t = 0 ∧ (l i).length < 1024)) := by
  by_cases hok : okTx t
  · refine ⟨hok, t.origin.toNat, by have := hok.1.2.1; have := hok.1.1; omega, by have := hok.1.1; omega, ?_⟩
    unfold addR at h ⊢
    rw [if_pos hok] at h ⊢
    by_cases hs : t.seq ≤ (l t.origin.toNat).length
    · rw [if_pos hs] at h ⊢
      cases hx : (l t.origin.toNat)[t.seq - 1]? with
      | none => rw [hx] at h; cases h
      | some x =>
        rw [hx] at h
        simp only at h
        by_cases hsm : sameT x t = true
        · simp only [hsm, if_true]
          exact .inl ⟨trivial, hs, x, rfl, hsm⟩
        · rw [if_neg hsm] at h; cases h
    · rw [if_neg hs] at h ⊢
      by_cases hb : behindE l t = 0
      · rw [if_pos hb] at h ⊢
        by_cases hl : (l t.origin.toNat).length < 1024
        · rw [if_pos hl]
          exact .inr ⟨rfl, by omega, hb, hl⟩
        · rw [if_neg hl] at h; cases h
      · rw [if_neg hb] at h
        simp only at h
        omega
  · unfold addR at h
    rw [if_neg hok] at h
    cases h
/-- The second logs begin with the first. -/
def ext (a b : LG) : Prop := ∀ (i k : Nat) (x : TX), i < 8 → (a i)[k]? = some x → (b i)[k]? = some x
theorem ext_refl (a : LG) : ext a a := fun _ _ _ _ h => h
theorem ext_trans {a b c : LG} (h : ext a b) (k : ext b c) : ext a c := fun i j x hi hx => k i j x hi (h i j x hi hx)
theorem addR_ext {l : LG} {t : TX} (h : (addR l t).1 = 0) : ext l (addR l t).2 := by
  obtain ⟨-, i, hi, -, ⟨e, -⟩ | ⟨e, -⟩⟩ := addR_ok h
  · rw [e]; exact ext_refl l
  · rw [e]
    intro j k x _ hx
    rw [addL_at (List.getElem?_eq_some_iff.1 hx).1]
    exact hx
theorem addR_cnt {l : LG} {t : TX} (h : (addR l t).1 = 0) : cntL l ≤ cntL (addR l t).2 ∧ cntL (addR l t).2 ≤ cntL l + 1 := by
  obtain ⟨-, i, hi, -, ⟨e, -⟩ | ⟨e, -⟩⟩ := addR_ok h
  · rw [e]; omega
  · rw [e]
    unfold cntL
    rw [cntTo_add, if_pos hi]
    omega
/-- A transaction that is there already is taken and changes nothing. -/
theorem addR_there {l : LG} {t : TX} (hok : okTx t) {i : Nat} (hi : t.origin = (i : Int)) {x : TX} (hx : (l i)[t.seq - 1]? = some x) (hs : sameT x t = true) : addR l t = (0, l) := by
  have hti : t.origin.toNat = i := by rw [hi]; simp
  have hle : t.seq ≤ (l i).length := by have := (List.getElem?_eq_some_iff.1 hx).1; have := hok.1.2.2.1; omega
  unfold addR
  rw [if_pos hok, hti, if_pos hle, hx]
  simp only [hs, if_true]
/-- Behind Add that answers OK the transaction is there. -/
theorem addR_is {l : LG} {t : TX} (h : (addR l t).1 = 0) (hl : ∀ j, j < 8 → (l j).length < 18446744073709551616) (hq : t.seq < 18446744073709551616) : ∃ i : Nat, i < 8 ∧ t.origin = (i : Int) ∧ ∃ x, ((addR l t).2 i)[t.seq - 1]? = some x ∧ sameT x t = true := by
  obtain ⟨hok, i, hi, ho, ⟨e, h1, x, hx, hs⟩ | ⟨e, h1, hb, h2⟩⟩ := addR_ok h
  · exact ⟨i, hi, ho, x, by rw [e]; exact hx, hs⟩
  · refine ⟨i, hi, ho, t, ?_, sameT_self t⟩
    have hp := add_place hok ho hi h1 hb
    rw [e, hp]
    unfold addL
    rw [if_pos rfl, Nat.add_sub_cancel, List.getElem?_append_right (Nat.le_refl _), Nat.sub_self]
    rfl
/-- How letIn ends. -/
theorem letF_end {l : LG} : ∀ (W st : List TX), (∃ t, t ∈ W ∧ (addR l t).1 = 0 ∧ cntL l < cntL (addR l t).2 ∧ (letF l W st).1 = (addR l t).2 ∧ (letF l W st).2.2 = true) ∨ ((letF l W st) = (l, st ++ W.filter (fun t => decide ((addR l t).1 = 90)), false) ∧ ∀ t ∈ W, ¬ ((addR l t).1 = 0 ∧ cntL l < cntL (addR l t).2))
  | [], st => .inr ⟨by simp [letF], fun t h => by cases h⟩
  | x :: r, st => by
    by_cases h : (addR l x).1 = 0 ∧ cntL l < cntL (addR l x).2
    · left
      refine ⟨x, List.mem_cons_self, h.1, h.2, ?_, ?_⟩ <;> rw [letF_in h.1 h.2]
    · by_cases h9 : (addR l x).1 = 90
      · rw [letF_gap h9]
        rcases letF_end (l := l) r (st ++ [x]) with ⟨t, ht, h1⟩ | ⟨h1, h2⟩
        · exact .inl ⟨t, List.mem_cons_of_mem _ ht, h1⟩
        · refine .inr ⟨?_, fun t ht => ?_⟩
          · rw [h1, List.filter_cons_of_pos (by simpa using h9), List.append_assoc]; rfl
          · rcases List.mem_cons.1 ht with rfl | ht
            · exact h
            · exact h2 t ht
      · have e : letF l (x :: r) st = letF l r st := by
          by_cases h0 : (addR l x).1 = 0
          · exact letF_old h0 (fun q => h ⟨h0, q⟩)
          · exact letF_bad h0 h9
        rw [e]
        rcases letF_end (l := l) r st with ⟨t, ht, h1⟩ | ⟨h1, h2⟩
        · exact .inl ⟨t, List.mem_cons_of_mem _ ht, h1⟩
        · refine .inr ⟨?_, fun t ht => ?_⟩
          · rw [h1, List.filter_cons_of_neg (by simpa using h9)]
          · rcases List.mem_cons.1 ht with rfl | ht
            · exact h
            · exact h2 t ht
/-- What holds of an inbox and is kept by each coming in holds behind settle. -/
theorem setN_ind (P : LG → List TX → Prop) (Q : LG → List TX → Prop) (hstep : ∀ l W t, P l W → t ∈ W → (addR l t).1 = 0 → cntL l < cntL (addR l t).2 → (letF l W []).1 = (addR l t).2 → P (addR l t).2 (letF l W []).2.1)
    (hlast : ∀ l W, P l W → (∀ t ∈ W, ¬ ((addR l t).1 = 0 ∧ cntL l < cntL (addR l t).2)) → Q l (W.filter (fun t => decide ((addR l t).1 = 90)))) : ∀ (n : Nat) (l : LG) (W : List TX), W.length < n → P l W → Q (setN n l W).1 (setN n l W).2
  | 0, _, _, h, _ => absurd h (Nat.not_lt_zero _)
  | n + 1, l, W, h, hp => by
    rcases letF_end (l := l) W [] with ⟨t, ht, h1, h2, h3, h4⟩ | ⟨h1, h2⟩
    · have hl := (letF_len (l := l) W []).1 h4
      rw [List.length_nil] at hl
      have e : setN (n + 1) l W = setN n (letF l W []).1 (letF l W []).2.1 := by
        show (if _ then _ else _) = _
        rw [if_pos h4]
      rw [e]
      refine setN_ind P Q hstep hlast n _ _ (by omega) ?_
      rw [h3]
      exact hstep l W t hp ht h1 h2 h3
    · rw [List.nil_append] at h1
      rw [setN_done h1]
      exact hlast l W hp h2
/-- The logs grow, by no more than what waited; what waits on waits for something. -/
theorem setN_grow (n : Nat) (l : LG) (W : List TX) (h : W.length < n) : ext l (setN n l W).1 ∧ cntL l ≤ cntL (setN n l W).1 ∧ cntL (setN n l W).1 ≤ cntL l + W.length ∧ (∀ t ∈ (setN n l W).2, (addR (setN n l W).1 t).1 = 90) ∧ (∀ t ∈ (setN n l W).2, t ∈ W) ∧ (setN n l W).2.length ≤ W.length := by
  have := setN_ind (fun l' W' => ext l l' ∧ cntL l ≤ cntL l' ∧ cntL l' + W'.length ≤ cntL l + W.length ∧ (∀ t ∈ W', t ∈ W) ∧ W'.length ≤ W.length)
    (fun l' W' => ext l l' ∧ cntL l ≤ cntL l' ∧ cntL l' ≤ cntL l + W.length ∧ (∀ t ∈ W', (addR l' t).1 = 90) ∧ (∀ t ∈ W', t ∈ W) ∧ W'.length ≤ W.length)
    (fun l' W' t ⟨h1, h2, h3, h4, h5⟩ ht ha hc he => by
      have hb := addR_cnt ha
      have hl := (letF_len (l := l') W' [])
      have hlt : (letF l' W' []).2.1.length < W'.length := by
        rcases letF_end (l := l') W' [] with ⟨_, _, _, _, _, h4⟩ | ⟨h1, h2⟩
        · have := hl.1 h4; simpa using this
        · exact absurd ⟨ha, hc⟩ (h2 t ht)
      refine ⟨ext_trans h1 (addR_ext ha), by omega, by omega, fun x hx => ?_, by omega⟩
      rcases letF_mem _ _ _ hx with hx | hx
      · cases hx
      · exact h4 x hx)
    (fun l' W' ⟨h1, h2, h3, h4, h5⟩ _ => ⟨h1, h2, by omega, fun t ht => by simpa using (List.mem_filter.1 ht).2, fun t ht => h4 t (List.mem_filter.1 ht).1, Nat.le_trans (List.length_filter_le _ _) h5⟩)
    n l W h ⟨ext_refl l, Nat.le_refl _, Nat.le_refl _, fun _ ht => ht, Nat.le_refl _⟩
  exact this
/-- Where all that waits waits for something, nothing comes in. -/
theorem setN_still {n : Nat} {l : LG} {W : List TX} (h : ∀ t ∈ W, (addR l t).1 = 90) : setN (n + 1) l W = (l, W) := by
  rcases letF_end (l := l) W [] with ⟨t, ht, h1, _⟩ | ⟨h1, _⟩
  · rw [h t ht] at h1; cases h1
  · rw [List.nil_append, List.filter_eq_self.2 (fun t ht => by simpa using h t ht)] at h1
    exact setN_done h1
theorem aheadT_self (t : TX) : aheadT t t = false := by unfold aheadT; rw [if_pos rfl]; simp
theorem numT_self (t : TX) : numT t t = true := by unfold numT; simp
/-- Where hold answers OK: nothing new, or one more at its place. -/
theorem holdR_ok {s : IB} {t : TX} (h : (holdR s t).2 = 0) : ((holdR s t).1 = s ∧ ∃ x, s.2[plcT t s.2]? = some x ∧ numT x t = true ∧ sameT x t = true) ∨ ((holdR s t).1 = (s.1, s.2.insertIdx (plcT t s.2) t) ∧ s.2.length < 64 ∧ ∀ x, s.2[plcT t s.2]? = some x → numT x t = false) := by
  unfold holdR at h ⊢
  cases hx : s.2[plcT t s.2]? with
  | none =>
    rw [hx] at h
    simp only at h ⊢
    by_cases h64 : 64 ≤ s.2.length
    · rw [if_pos h64] at h; cases h
    · rw [if_neg h64]
      exact .inr ⟨rfl, by omega, fun x e => by cases e⟩
  | some x =>
    rw [hx] at h
    simp only at h ⊢
    by_cases hn : numT x t = true
    · rw [if_pos hn] at h ⊢
      by_cases hs : sameT x t = true
      · rw [if_pos hs]
        exact .inl ⟨rfl, x, rfl, hn, hs⟩
      · rw [if_neg hs] at h; cases h
    · rw [if_neg hn] at h ⊢
      by_cases h64 : 64 ≤ s.2.length
      · rw [if_pos h64] at h; cases h
      · rw [if_neg h64]
        exact .inr ⟨rfl, by omega, fun y e => by injection e with e; rw [← e]; simpa using hn⟩
theorem holdR_there {s : IB} {t x : TX} (h : s.2[plcT t s.2]? = some x) (hn : numT x t = true) (hs : sameT x t = true) : holdR s t = (s, 0) := by
  unfold holdR
  rw [h]
  simp only [hn, hs, if_true]
theorem plcT_insert {t : TX} {W : List TX} : plcT t (W.insertIdx (plcT t W) t) = plcT t W ∧ (W.insertIdx (plcT t W) t)[plcT t W]? = some t := by
  have hle := plcT_le t W
  have h1 : (W.insertIdx (plcT t W) t)[plcT t W]? = some t := by rw [List.getElem?_insertIdx_self, if_pos hle]
  refine ⟨plcT_of (fun j x hj hx => ?_) (by rw [List.length_insertIdx, if_pos hle]; omega) (fun x hx => ?_), h1⟩
  · rw [List.getElem?_insertIdx_of_lt hj] at hx
    exact plcT_ahead hj hx
  · rw [h1] at hx
    injection hx with hx
    rw [← hx]; exact aheadT_self t
/-- What was received and comes again changes nothing. -/
theorem recv_again {s : IB} {t : TX} (hl : ∀ j, j < 8 → (s.1 j).length < 18446744073709551616) (hq : t.seq < 18446744073709551616) (h : (recvR s t).2.2 = 0) : recvR (recvR s t).1 t = ((recvR s t).1, 0, 0) := by
  by_cases h0 : (addR s.1 t).1 = 0
  · have e : (recvR s t).1 = setN (s.2.length + 1) (addR s.1 t).2 s.2 := by unfold recvR; rw [if_pos h0]
    rw [e]
    obtain ⟨g1, -, -, g4, -, -⟩ := setN_grow (s.2.length + 1) (addR s.1 t).2 s.2 (Nat.lt_succ_self _)
    obtain ⟨i, hi, ho, x, hx, hs⟩ := addR_is h0 hl hq
    obtain ⟨S, hS⟩ : ∃ S, S = setN (s.2.length + 1) (addR s.1 t).2 s.2 := ⟨_, rfl⟩
    rw [← hS] at g1 g4 ⊢
    have ha := addR_there (l := S.1) (addR_ok h0).1 ho (g1 i _ x hi hx) hs
    unfold recvR
    rw [ha, if_pos rfl, setN_still g4]
    simp
  · by_cases h9 : (addR s.1 t).1 = 90
    · have e : (recvR s t).1 = (holdR s t).1 := by unfold recvR; rw [if_neg h0, if_pos h9]
      have eh : (holdR s t).2 = 0 := by unfold recvR at h; rw [if_neg h0, if_pos h9] at h; exact h
      rw [e]
      rcases holdR_ok eh with ⟨h1, x, hx, hn, hs⟩ | ⟨h1, -, -⟩
      · rw [h1]
        unfold recvR
        rw [if_neg h0, if_pos h9, holdR_there hx hn hs]
      · rw [h1]
        have hp := plcT_insert (t := t) (W := s.2)
        unfold recvR
        simp only
        rw [if_neg h0, if_pos h9, holdR_there (s := (s.1, s.2.insertIdx (plcT t s.2) t)) (x := t) (by simp only; rw [hp.1]; exact hp.2) (numT_self t) (sameT_self t)]
    · exfalso
      unfold recvR at h
      rw [if_neg h0, if_neg h9] at h
      exact h0 h
end Go.Proofs.Ytjpiemgpbakfaaa
