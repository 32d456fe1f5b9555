/- Plain mathematics: without the operations on other keys the value is the same. -/
import Derived.Test.YtaldgjcbbjjceaaGVsO
import Derived.Test.YtaldgjcbbjjceaaG30
namespace Go.Proofs.Ytaldgjcbbjjceaa

/-- Deeds that tell the same. -/
structure LikeD (e d : DD) : Prop where
  op : e.op = d.op
  origin : e.t.origin = d.t.origin
  seq : e.t.seq = d.t.seq
  stamp : e.t.stamp = d.t.stamp
  deps : e.t.deps = d.t.deps
  within : ∀ k, withinD k e = withinD k d
section
variable {f : DD → DD}
theorem kindF_like {D : List DD} (h : ∀ d ∈ D, LikeD (f d) d) (k : Int) : kindF k (D.map f) = (kindF k D).map f := by
  unfold kindF
  rw [List.filter_map]
  congr 1
  refine List.filter_congr fun d hd => ?_
  show decide ((f d).op.kind = k) = decide (d.op.kind = k)
  rw [(h d hd).op]
theorem sumD_like {D : List DD} (h : ∀ d ∈ D, LikeD (f d) d) : ∀ j, sumD (D.map f) j = sumD D j
  | 0 => rfl
  | j + 1 => by
    show sumD (D.map f) j + _ = sumD D j + _
    rw [sumD_like h j, List.getElem?_map]
    cases hj : D[j]? with
    | none => rfl
    | some d =>
      show _ + (f d).op.n = _ + d.op.n
      rw [(h d (List.mem_of_getElem? hj)).op]
theorem like_sub {D : List DD} (h : ∀ d ∈ D, LikeD (f d) d) (k : Int) : ∀ d ∈ kindF k D, LikeD (f d) d := fun d hd => h d (kindF_mem hd)
theorem totD_like {D : List DD} (h : ∀ d ∈ D, LikeD (f d) d) (s : Int) : totD s (D.map f) = totD s D := by
  unfold totD
  rw [kindF_like h, kindF_like h, sumD_like (like_sub h 1), sumD_like (like_sub h 2), List.length_map, List.length_map]
theorem seenF_like {L : List DD} (h : ∀ d ∈ L, LikeD (f d) d) : ∀ j, seenF (L.map f) j = seenF L j
  | 0 => rfl
  | j + 1 => by
    cases hj : L[j]? with
    | none =>
      show (match (L.map f)[j]? with | some d => _ | none => _) = (match L[j]? with | some d => _ | none => _)
      rw [List.getElem?_map, hj]
      exact seenF_like h j
    | some d =>
      have hd := h d (List.mem_of_getElem? hj)
      rw [seenF_at hj, seenF_at (L := L.map f) (d := f d) (by rw [List.getElem?_map, hj]; rfl), seenF_like h j, hd.op, hd.deps]
theorem unsL_like {D : List DD} (h : ∀ d ∈ D, LikeD (f d) d) (a b : Int) : unsL a b (D.map f) = (unsL a b D).map f := by
  unfold unsL
  rw [kindF_like h, kindF_like h, List.length_map, seenF_like (like_sub h b), List.filter_map]
  congr 1
  refine List.filter_congr fun d hd => ?_
  have hl := like_sub h a d hd
  show (!unsD _ b (f d)) = (!unsD _ b d)
  unfold unsD
  rw [hl.op, hl.origin, hl.seq, hl.within]
theorem elemsD_like {D : List DD} (h : ∀ d ∈ D, LikeD (f d) d) : elemsD (D.map f) = elemsD D := by
  unfold elemsD
  rw [List.map_map]
  exact List.map_congr_left fun d hd => by
    show (f d).op.elem = d.op.elem
    rw [(h d hd).op]
theorem topD_like {D : List DD} (h : ∀ d ∈ D, LikeD (f d) d) : topD (D.map f) = (topD D).map f := by
  have key : ∀ (D : List DD) (o : Option DD), (∀ d ∈ D, LikeD (f d) d) → (∀ d, o = some d → LikeD (f d) d) → (D.map f).foldl topN (o.map f) = (D.foldl topN o).map f := by
    intro D
    induction D with
    | nil => intro o _ _; rfl
    | cons d r ih =>
      intro o hD ho
      have hd := hD d (by simp)
      have hr : ∀ x ∈ r, LikeD (f x) x := fun x hx => hD x (List.mem_cons_of_mem _ hx)
      rw [List.map_cons, List.foldl_cons, List.foldl_cons]
      have e : topN (o.map f) (f d) = (topN o d).map f ∧ ∀ x, topN o d = some x → LikeD (f x) x := by
        cases o with
        | none => exact ⟨rfl, fun x hx => by injection hx with hx; rw [← hx]; exact hd⟩
        | some t =>
          have ht := ho t rfl
          by_cases hle : t.t.stamp ≤ d.t.stamp
          · refine ⟨?_, fun x hx => by rw [topN_yes hle] at hx; injection hx with hx; rw [← hx]; exact hd⟩
            rw [topN_yes hle]
            exact topN_yes (t := f t) (d := f d) (by rw [ht.stamp, hd.stamp]; exact hle)
          · refine ⟨?_, fun x hx => by rw [topN_no hle] at hx; injection hx with hx; rw [← hx]; exact ht⟩
            rw [topN_no hle]
            exact topN_no (t := f t) (d := f d) (by rw [ht.stamp, hd.stamp]; exact hle)
      rw [e.1]
      exact ih _ hr e.2
  exact key D none h (fun d hd => by cases hd)
/-- The value hangs on what the deeds tell alone. -/
theorem valR_like {D : List DD} (h : ∀ d ∈ D, LikeD (f d) d) (kind start : Int) : valR kind start (D.map f) = valR kind start D := by
  have hu : ∀ a b, ∀ d ∈ unsL a b D, LikeD (f d) d := fun a b d hd => h d (unsL_mem hd)
  have e1 : firmL (D.map f) = firmL D := by unfold firmL; rw [kindF_like h, unsL_like h, elemsD_like (like_sub h 4), elemsD_like (hu 5 4)]
  have e2 : lastL (D.map f) = lastL D := by
    unfold lastL
    rw [kindF_like h, topD_like (like_sub h 6)]
    cases ht : topD (kindF 6 D) with
    | none => rfl
    | some t =>
      show [(f t).op.elem] = [t.op.elem]
      rw [(like_sub h 6 t (topD_mem ht)).op]
  have e3 : onB start (D.map f) = onB start D := by unfold onB; rw [unsL_like h, kindF_like h, List.length_map, List.length_map]
  unfold valR
  rw [totD_like h, unsL_like h, unsL_like h, elemsD_like (hu 4 5), elemsD_like (hu 6 6), e1, e2, e3]
end
/-- A deed with nothing of its transaction but the operations on the key from its own on. -/
def normD (key : ByteArray) (d : DD) : DD := ⟨0, 0, ⟨d.t.origin, d.t.seq, d.t.stamp, d.t.deps, d.op :: alF key (d.t.ops.drop (d.i + 1))⟩, 0⟩
theorem any_filter {α : Type} (L : List α) (p q : α → Bool) (h : ∀ x ∈ L, p x = true → q x = true) : L.any p = (L.filter q).any p := by
  induction L with
  | nil => rfl
  | cons a r ih =>
    have ih := ih fun x hx => h x (List.mem_cons_of_mem _ hx)
    rw [List.any_cons, ih]
    by_cases hq : q a = true
    · rw [List.filter_cons_of_pos hq, List.any_cons]
    · rw [List.filter_cons_of_neg hq]
      have : p a = false := Bool.eq_false_iff.2 fun hp => hq (h a (by simp) hp)
      rw [this, Bool.false_or]
theorem normD_like {key : ByteArray} {d : DD} (hk : eqS d.op.key key = true) : LikeD (normD key d) d := by
  have hop : (normD key d).op = d.op := rfl
  refine ⟨hop, rfl, rfl, rfl, rfl, fun k => ?_⟩
  unfold withinD
  rw [hop]
  show ((d.op :: alF key (d.t.ops.drop (d.i + 1))).drop 1).any _ = _
  rw [List.drop_succ_cons, List.drop_zero]
  symm
  refine any_filter _ _ _ fun p _ hp => ?_
  unfold seesB at hp
  simp only [Bool.and_eq_true] at hp
  rw [eqS_iff.1 hp.2.1]
  exact hk
/-- The deeds that the operations on the key of one transaction make, each with those behind it. -/
def tailsN (t : TX) : List TO → List DD
  | [] => []
  | a :: r => ⟨0, 0, ⟨t.origin, t.seq, t.stamp, t.deps, a :: r⟩, 0⟩ :: tailsN t r
theorem dTx_norm (key : ByteArray) (t : TX) : ∀ j, j ≤ t.ops.length → ((dTx key t j).map toD).map (normD key) ++ tailsN t (alF key (t.ops.drop j)) = tailsN t (alF key t.ops)
  | 0, _ => by
    show [] ++ _ = _
    rw [List.drop_zero]; rfl
  | j + 1, h => by
    have ih := dTx_norm key t j (by omega)
    have hj : t.ops[j]? = some (t.ops[j]'(by omega)) := List.getElem?_eq_getElem (by omega)
    have d : t.ops.drop j = t.ops[j]'(by omega) :: t.ops.drop (j + 1) := List.drop_eq_getElem_cons (by omega)
    by_cases hk : eqS (t.ops[j]'(by omega)).key key = true
    · rw [dTx_yes hj hk, List.map_append, List.map_append, ← ih, d, List.append_assoc]
      congr 1
      have e : alF key (t.ops[j]'(by omega) :: t.ops.drop (j + 1)) = t.ops[j]'(by omega) :: alF key (t.ops.drop (j + 1)) := List.filter_cons_of_pos (p := fun o : TO => eqS o.key key) hk
      rw [e]
      have eo : (toD (t, j)).op = t.ops[j]'(by omega) := opAt_some hj
      show [normD key (toD (t, j))] ++ _ = _
      unfold normD
      rw [eo]
      rfl
    · rw [dTx_no hj (Bool.eq_false_iff.2 hk), ← ih, d]
      congr 1
      have e : alF key (t.ops[j]'(by omega) :: t.ops.drop (j + 1)) = alF key (t.ops.drop (j + 1)) := List.filter_cons_of_neg (p := fun o : TO => eqS o.key key) hk
      rw [e]
theorem dTx_tails (key : ByteArray) (t : TX) : ((dTx key t t.ops.length).map toD).map (normD key) = tailsN t (alF key t.ops) := by
  have := dTx_norm key t t.ops.length (Nat.le_refl _)
  rw [List.drop_length] at this
  rw [← this]
  show _ = _ ++ tailsN t []
  rw [show tailsN t [] = [] from rfl, List.append_nil]
theorem othO_ne (key : ByteArray) : eqS (othO key).key key = false := by
  refine eqS_ne ?_
  unfold othO shortB
  split
  · next h => subst h; decide +kernel
  · next h =>
    intro e
    apply h
    rw [← e]
    decide +kernel
theorem alF_alO (key : ByteArray) (ops : List TO) : alF key (alO key ops) = alF key ops := by
  unfold alO
  split
  · next h =>
    rw [List.length_eq_zero_iff.1 h]
    unfold alF
    rw [List.filter_cons_of_neg (by rw [othO_ne]; simp)]
    rfl
  · unfold alF
    rw [List.filter_filter]
    simp
theorem tails_alT (key : ByteArray) (t : TX) : tailsN (alT key t) = tailsN t := by
  funext ops
  induction ops with
  | nil => rfl
  | cons a r ih =>
    show _ :: tailsN (alT key t) r = _ :: tailsN t r
    rw [ih]
    rfl
theorem dLog_al (key : ByteArray) (l : LG) (i : Nat) : ∀ d, ((dLog key (alL key l) i d).map toD).map (normD key) = ((dLog key l i d).map toD).map (normD key)
  | 0 => rfl
  | d + 1 => by
    have ih := dLog_al key l i d
    cases h : (l i)[d]? with
    | none =>
      have e1 : dLog key l i (d + 1) = dLog key l i d := by
        show dLog key l i d ++ _ = _
        rw [h]; simp
      have e2 : dLog key (alL key l) i (d + 1) = dLog key (alL key l) i d := by
        show dLog key (alL key l) i d ++ _ = _
        unfold alL
        rw [List.getElem?_map, h]; simp
      rw [e1, e2, ih]
    | some t =>
      have h2 : (alL key l i)[d]? = some (alT key t) := by unfold alL; rw [List.getElem?_map, h]; rfl
      rw [dLog_at h, dLog_at h2, List.map_append, List.map_append, List.map_append, List.map_append, ih]
      congr 1
      rw [dTx_tails, dTx_tails, tails_alT]
      show tailsN t (alF key (alO key t.ops)) = _
      rw [alF_alO]
theorem dAll_al (key : ByteArray) (l : LG) (v : Nat → Nat) : ∀ n, ((dAll key (alL key l) v n).map toD).map (normD key) = ((dAll key l v n).map toD).map (normD key)
  | 0 => rfl
  | n + 1 => by
    show ((dAll key (alL key l) v n ++ _).map toD).map _ = ((dAll key l v n ++ _).map toD).map _
    rw [List.map_append, List.map_append, List.map_append, List.map_append, dAll_al key l v n, dLog_al]
theorem all_like {key : ByteArray} {l : LG} {v : Nat → Nat} : ∀ d ∈ (dAll key l v 8).map toD, LikeD (normD key d) d := fun d hd => by
  obtain ⟨x, hx, rfl⟩ := List.mem_map.1 hd
  obtain ⟨-, o, h1, h2⟩ := dAll_mem.1 hx
  refine normD_like ?_
  rw [show (toD x).op = o from opAt_some h1]
  exact h2
theorem valAt_al (kind start : Int) (key : ByteArray) (l : LG) (v : Nat → Nat) : valAt kind start (alL key l) v key = valAt kind start l v key := by
  unfold valAt
  rw [← valR_like (all_like (key := key) (l := alL key l) (v := v)), dAll_al, valR_like all_like]
theorem sizeV_al (key : ByteArray) (l : LG) : sizeV (alL key l) = sizeV l := by
  funext i
  show (alL key l i).length = (l i).length
  unfold alL
  rw [List.length_map]
theorem alL_at {key : ByteArray} {l : LG} {i k : Nat} {t : TX} (h : (alL key l i)[k]? = some t) : ∃ t0, (l i)[k]? = some t0 ∧ t = alT key t0 := by
  unfold alL at h
  rw [List.getElem?_map] at h
  cases h0 : (l i)[k]? with
  | none => rw [h0] at h; cases h
  | some t0 => rw [h0] at h; exact ⟨t0, rfl, (Option.some.inj h).symm⟩
theorem keyS_other (key : ByteArray) : keyS (othO key).key = true := by
  unfold othO shortB
  split <;> decide +kernel
theorem okOp_other (key : ByteArray) (m : Int) : okOp (othO key) m := by
  refine ⟨keyS_other key, Nat.zero_le _, .inl ⟨.inl rfl, ?_, rfl⟩⟩
  show amtB 1 = true
  decide
theorem okTx_al {key : ByteArray} {t : TX} (h : okTx t) : okTx (alT key t) := by
  obtain ⟨h1, h2, h3, h4⟩ := h
  have hm : ∀ o ∈ alO key t.ops, okOp o t.origin := fun o ho => by
    unfold alO at ho
    split at ho
    · rw [List.mem_singleton.1 ho]; exact okOp_other key _
    · exact h4 o (List.mem_filter.1 ho).1
  refine ⟨h1, ?_, ?_, hm⟩
  · show 1 ≤ (alO key t.ops).length
    unfold alO
    split
    · exact Nat.le_refl 1
    · omega
  · show (alO key t.ops).length ≤ 8
    unfold alO
    split
    · simp
    · exact Nat.le_trans (alF_len key t.ops) h3
theorem lastS_al (key : ByteArray) (l : LG) (v : Nat → Nat) (i : Nat) : lastS (alL key l) v i = lastS l v i := by
  unfold lastS
  split
  · rfl
  · have e : (alL key l i)[v i - 1]? = ((l i)[v i - 1]?).map (alT key) := by unfold alL; rw [List.getElem?_map]
    rw [e]
    cases (l i)[v i - 1]? <;> rfl
theorem okL_al {key : ByteArray} {l : LG} (h : OkL l) : OkL (alL key l) := by
  refine ⟨fun i hi => ?_, fun i k t hi ht => ?_⟩
  · have := h.len i hi
    unfold alL
    rw [List.length_map]
    exact this
  · obtain ⟨t0, h0, rfl⟩ := alL_at ht
    obtain ⟨h1, h2, h3, h4, h5⟩ := h.tx i k t0 hi h0
    refine ⟨okTx_al h1, h2, h3, by rw [sizeV_al]; exact h4, ?_⟩
    have e : stampV (alL key l) t0.deps = stampV l t0.deps := stampTo_congr fun j _ => lastS_al key l _ j
    show stampV (alL key l) t0.deps < t0.stamp
    rw [e]
    exact h5
theorem closed_al {key : ByteArray} {l : LG} {v : Nat → Nat} (h : closedP l v) : closedP (alL key l) v := by
  refine ⟨by rw [sizeV_al]; exact h.1, fun i k t hi hk ht => ?_⟩
  obtain ⟨t0, h0, rfl⟩ := alL_at ht
  exact h.2 i k t0 hi hk h0
theorem valE_al {kind : Int} {key : ByteArray} {l : LG} {v : Nat → Nat} (h : valE kind l v = 0) : valE kind (alL key l) v = 0 := by
  obtain ⟨h1, h2, h3⟩ := valE_ok h
  unfold valE
  rw [if_neg (by omega), if_pos (okL_iff.2 (okL_al h2)), if_pos (closedB_iff.2 (closed_al h3))]
theorem valV_al {kind start : Int} {key : ByteArray} {l : LG} {v : Nat → Nat} (h : valE kind l v = 0) : valV kind start (alL key l) v key = valV kind start l v key := by
  unfold valV
  rw [if_pos h, if_pos (valE_al h), valAt_al]
theorem fitQ_al {key : ByteArray} {l : LG} (h : FitQ l) : FitQ (alL key l) := fun i t hi ht => by
  obtain ⟨k, hk⟩ := List.mem_iff_getElem?.1 ht
  obtain ⟨t0, h0, rfl⟩ := alL_at hk
  obtain ⟨h1, h2⟩ := h i t0 hi (List.mem_of_getElem? h0)
  refine ⟨h1, fun o ho => ?_⟩
  have ho : o ∈ alO key t0.ops := ho
  unfold alO at ho
  split at ho
  · rw [List.mem_singleton.1 ho]
    have := keyS_size (keyS_other key)
    omega
  · exact h2 o (List.mem_filter.1 ho).1
end Go.Proofs.Ytaldgjcbbjjceaa
