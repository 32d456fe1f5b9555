/- Plain mathematics of logs: what mends a log, and what drops one. -/
import Derived.Test.YtmkcgnljankmdaaDoorWalL
import Derived.Test.YtmkcgnljankmdaaDoorWalA
namespace Go.Proofs.YtmkcgnljankmdaaDoor

theorem nbN_low {c : Nat} (h : lowB c = true) : nbN c = true := by
  have := lowB_yes h
  unfold nbN
  rw [decide_eq_true_iff]
  omega
theorem nbN_dig {c : UInt8} (h : isDig c = true) : nbN c.toNat = true := by
  unfold isDig at h
  have := of_decide_eq_true h
  unfold nbN
  rw [decide_eq_true_iff]
  omega
theorem nameOk_seg {p : ByteArray} (hp : prefixB p = true) (i : Nat) : nameOk (nameW p i) = true := by
  have hs := prefix_size hp
  rw [nameOk_size, nameW_size, nameW_list, decide_eq_true (by omega), Bool.true_and, List.all_append, List.all_cons]
  unfold prefixB at hp
  rw [Bool.and_eq_true] at hp
  have h1 : (p.data.toList.all fun c => nbN c.toNat) = true := by
    rw [List.all_eq_true]
    intro c hc
    exact nbN_low (List.all_eq_true.1 hp.2 c hc)
  have h2 : ((dig6 i).all fun c => nbN c.toNat) = true := by
    rw [List.all_eq_true]
    intro c hc
    exact nbN_dig (List.all_eq_true.1 (dig6_all i) c hc)
  rw [h1, h2]
  rfl
theorem good_drop {p : ByteArray} (hp : prefixB p = true) (i : Nat) : ¬ badOp (dropO p i) := by
  rintro (h | h | h)
  · exact absurd h (show ¬ ((4 : Int) < 1) by decide)
  · exact absurd h (show ¬ ((4 : Int) < 4) by decide)
  · rw [show nameOk (dropO p i).name = true from nameOk_seg hp i] at h; cases h
theorem good_cut {p : ByteArray} (hp : prefixB p = true) (i k : Nat) : ¬ badOp (cutO p i k) := by
  rintro (h | h | h)
  · exact absurd h (show ¬ ((3 : Int) < 1) by decide)
  · exact absurd h (show ¬ ((4 : Int) < 3) by decide)
  · rw [show nameOk (cutO p i k).name = true from nameOk_seg hp i] at h; cases h
theorem good_sync {p : ByteArray} (hp : prefixB p = true) (i : Nat) : ¬ badOp (syncO p i) := by
  rintro (h | h | h)
  · exact absurd h (show ¬ ((2 : Int) < 1) by decide)
  · exact absurd h (show ¬ ((4 : Int) < 2) by decide)
  · rw [show nameOk (syncO p i).name = true from nameOk_seg hp i] at h; cases h
theorem good_write {p : ByteArray} (hp : prefixB p = true) (i : Nat) (fr : ByteArray) : ¬ badOp (writeO p i fr) := by
  rintro (h | h | h)
  · exact absurd h (show ¬ ((1 : Int) < 1) by decide)
  · exact absurd h (show ¬ ((4 : Int) < 1) by decide)
  · rw [show nameOk (writeO p i fr).name = true from nameOk_seg hp i] at h; cases h
def Dist (L : List F) : Prop := (L.map F.name).Nodup
/-- All segments from a on, below t, are gone. -/
structure Gone (L L' : List F) (p : ByteArray) (a t : Nat) : Prop where
  gone : ∀ i, a ≤ i → i < t → lk L' (nameW p i) = none
  keep : ∀ nm, (∀ i, a ≤ i → i < t → nm ≠ nameW p i) → lk L' nm = lk L nm
  nd : Dist L'
  sub : ∀ f ∈ L', f ∈ L
  len : L'.length ≤ L.length
theorem run_drops {p : ByteArray} (hp : prefixB p = true) (a : Nat) : ∀ (t : Nat) (L : List F), t ≤ 1000000 → Dist L → (∀ i, a ≤ i → i < t → lk L (nameW p i) ≠ none) → ∃ L', run L (dropsO p a t) = (L', (dropsO p a t).length, 0) ∧ Gone L L' p a t
  | 0, L, _, hd, _ => ⟨L, rfl, fun i _ h => absurd h (Nat.not_lt_zero _), fun _ _ => rfl, hd, fun _ h => h, Nat.le_refl _⟩
  | t + 1, L, ht, hd, h => by
    by_cases ha : a ≤ t
    · obtain ⟨f, hf⟩ := Option.ne_none_iff_exists'.1 (h t ha (Nat.lt_succ_self t))
      have hst : step L (dropO p t) = (0, L.eraseIdx (findF L (nameW p t))) := step_some (good_drop hp t) hf
      have hnow := now_drop hd hf
      have ne : ∀ i, a ≤ i → i < t → nameW p t ≠ nameW p i := fun i _ hi e => by
        have := nameW_inj (by omega) (by omega) e
        omega
      obtain ⟨L', hr, hg⟩ := run_drops hp a t (L.eraseIdx (findF L (nameW p t))) (by omega) (names_drop hd) (fun i h1 h2 => by
        rw [hnow.there _ (ne i h1 h2)]
        exact h i h1 (by omega))
      refine ⟨L', ?_, fun i h1 h2 => ?_, fun nm hnm => ?_, hg.nd, fun f hf => List.mem_of_mem_eraseIdx (hg.sub f hf), Nat.le_trans hg.len (List.length_eraseIdx_le _ _)⟩
      · rw [dropsO_in ha, run_ok (by rw [hst]), hst, hr]
        rfl
      · by_cases e : i = t
        · subst e
          rw [hg.keep _ ne]
          exact hnow.here
        · exact hg.gone i h1 (by omega)
      · rw [hg.keep nm (fun i h1 h2 => hnm i h1 (by omega)), hnow.there nm (fun e => hnm t ha (Nat.lt_succ_self t) e.symm)]
    · rw [dropsO_out (by omega)]
      exact ⟨L, rfl, fun i h1 h2 => absurd h1 (by omega), fun _ _ => rfl, hd, fun _ h => h, Nat.le_refl _⟩

/-- These are the log's segments. -/
structure IsLog (L : List F) (p : ByteArray) (X : List F) : Prop where
  at_ : ∀ i (hi : i < X.length), segO L p i = some X[i]
  out : segO L p X.length = none
theorem IsLog.segs {L : List F} {p : ByteArray} {X : List F} (h : IsLog L p X) : segL L p = X ∧ segN L p = X.length := by
  have hn : segN L p = X.length := segN_eq ⟨fun i hi => by rw [h.at_ i hi]; exact Option.some_ne_none _, h.out⟩
  refine ⟨?_, hn⟩
  apply List.ext_getElem
  · rw [segL_len, hn]
  · intro i h1 h2
    have := segL_at h1
    rw [h.at_ i h2] at this
    injection this with this
    exact this.symm
theorem isLog (L : List F) (p : ByteArray) : IsLog L p (segL L p) :=
  ⟨fun _ hi => segL_at hi, by rw [segL_len]; exact (segN_is L p).2⟩
theorem IsLog.few {L : List F} {p : ByteArray} {X : List F} (h : IsLog L p X) : X.length ≤ 1000000 ∧ X.length ≤ L.length := by
  have := (segN_is L p).le
  rw [h.segs.2] at this
  exact ⟨this.2, this.1⟩
theorem open_whole {p : ByteArray} {m : Nat} : ∀ (r : List F) (i : Nat), (∀ f ∈ r, ¬ tornF f) → openS p m i r = (r.flatMap recsF, [])
  | [], _, _ => rfl
  | f :: r, i, h => by
    rw [openS_whole (h f List.mem_cons_self), open_whole r (i + 1) (fun g hg => h g (List.mem_cons_of_mem _ hg)), List.flatMap_cons]
theorem open_cases {p : ByteArray} {m : Nat} : ∀ (r : List F) (i : Nat), (∀ f ∈ r, ¬ tornF f) ∨ ∃ (j : Nat) (hj : j < r.length), (∀ f ∈ r.take j, ¬ tornF f) ∧ tornF r[j] ∧ openS p m i r = ((r.take j).flatMap recsF ++ recsF r[j], dropsO p (i + j + 1) m ++ [cutO p (i + j) (bytesOf (recsF r[j]))])
  | [], _ => .inl (fun f hf => by cases hf)
  | f :: r, i => by
    by_cases ht : tornF f
    · refine .inr ⟨0, Nat.zero_lt_succ _, (fun g hg => by cases hg), ht, ?_⟩
      rw [openS_torn ht]
      rfl
    · rcases open_cases (p := p) (m := m) r (i + 1) with h | ⟨j, hj, h1, h2, h3⟩
      · refine .inl (fun g hg => ?_)
        rcases List.mem_cons.1 hg with rfl | hg
        · exact ht
        · exact h g hg
      · refine .inr ⟨j + 1, Nat.succ_lt_succ hj, fun g hg => ?_, h2, ?_⟩
        · rw [List.take_succ_cons] at hg
          rcases List.mem_cons.1 hg with rfl | hg
          · exact ht
          · exact h1 g hg
        · rw [openS_whole ht, h3, List.take_succ_cons, List.flatMap_cons, List.append_assoc, show i + 1 + j = i + (j + 1) by omega]
          rfl
theorem IsLog.opens {L : List F} {p : ByteArray} {X : List F} (h : IsLog L p X) (hw : ∀ f ∈ X, ¬ tornF f) : openW L p = (X.flatMap recsF, []) := by
  unfold openW
  rw [h.segs.1]
  exact open_whole X 0 hw
/-- A file cut behind its whole frames. -/
def cutF (f : F) (nm : ByteArray) : F := ⟨nm, (f.kept ++ f.loose).extract 0 (bytesOf (recsF f)), ⟨#[]⟩⟩
theorem cutF_bytes (f : F) (nm : ByteArray) : fbytes (cutF f nm) = (fbytes f).take (bytesOf (recsF f)) := by
  unfold fbytes cutF
  simp only
  rw [append_nil, ext_list, List.drop_zero, Nat.sub_zero]
theorem cutF_recs (f : F) (nm : ByteArray) : recsF (cutF f nm) = recsF f := by
  unfold recsF
  rw [cutF_bytes]
  exact scan_cut (fbytes f)
theorem cutF_whole (f : F) (nm : ByteArray) : ¬ tornF (cutF f nm) := by
  unfold tornF
  rw [cutF_recs, cutF_bytes, List.length_take]
  omega
theorem cutF_size (f : F) (nm : ByteArray) : (cutF f nm).size ≤ f.size := by
  rw [← fbytes_len, ← fbytes_len, cutF_bytes, List.length_take]
  omega
/-- No file has a segment's name behind a gap. -/
def NoStray (L : List F) (p : ByteArray) : Prop := ∀ j, segN L p < j → segO L p j = none

structure Mend (L L' : List F) (p : ByteArray) (X : List F) (R : List (List UInt8)) : Prop where
  log : IsLog L' p X
  whole : ∀ f ∈ X, ¬ tornF f
  recs : X.flatMap recsF = R
  nd : Dist L'
  len : L'.length ≤ L.length
  size : ∀ B, (∀ f ∈ L, f.size ≤ B) → ∀ f ∈ L', f.size ≤ B
  stray : NoStray L p → NoStray L' p
/-- P5.2: what mends a log. -/
theorem mend {L : List F} {p : ByteArray} (hp : prefixB p = true) (hd : Dist L) : ∃ L' X, run L (openW L p).2 = (L', (openW L p).2.length, 0) ∧ Mend L L' p X (openW L p).1 := by
  have hlog := isLog L p
  obtain ⟨S, hS⟩ : ∃ S, S = segL L p := ⟨_, rfl⟩
  have hop : openW L p = openS p S.length 0 S := by unfold openW; rw [← hS]
  rw [← hS] at hlog
  have hfew := hlog.few.1
  rw [hop]
  rcases open_cases (p := p) (m := S.length) S 0 with h | ⟨j, hj, h1, h2, h3⟩
  · rw [open_whole S 0 h]
    exact ⟨L, S, rfl, hlog, h, rfl, hd, Nat.le_refl _, fun B hB => hB, fun hs => hs⟩
  · rw [h3]
    simp only [Nat.zero_add]
    have here : ∀ i, i < S.length → lk L (nameW p i) ≠ none := fun i hi => by
      rw [← segO_lk (by omega), hlog.at_ i hi]
      exact Option.some_ne_none _
    obtain ⟨L1, hr1, hg⟩ := run_drops hp (j + 1) S.length L hfew hd (fun i _ hi => here i hi)
    have hjl : lk L1 (nameW p j) = some S[j] := by
      rw [hg.keep _ (fun i h4 h5 e => by have := nameW_inj (show j < 1000000 by omega) (show i < 1000000 by omega) e; omega), ← segO_lk (by omega)]
      exact hlog.at_ j hj
    have hsz := recs_le S[j]
    have hst : step L1 (cutO p j (bytesOf (recsF S[j]))) = (0, L1.set (findF L1 (nameW p j)) (cutF S[j] (nameW p j))) := by
      have := step_some (good_cut hp j (bytesOf (recsF S[j]))) hjl
      rw [this]
      have e0 : (cutO p j (bytesOf (recsF S[j]))).kind = 3 := rfl
      have e1 : (cutO p j (bytesOf (recsF S[j]))).at_ = (bytesOf (recsF S[j]) : Int) := rfl
      rw [e0, e1, if_neg (by decide), if_neg (by decide), if_pos rfl, if_neg (by omega), Int.toNat_natCast]
      obtain ⟨_, _, hn⟩ := lk_some hjl
      rw [hn]
      rfl
    obtain ⟨L2, hL2⟩ : ∃ L2, L2 = L1.set (findF L1 (nameW p j)) (cutF S[j] (nameW p j)) := ⟨_, rfl⟩
    have hnow : Now L1 L2 (nameW p j) (some (cutF S[j] (nameW p j))) := by rw [hL2]; exact now_set hjl rfl
    rw [← hL2] at hst
    have hlen : (S.take j ++ [cutF S[j] (nameW p j)]).length = j + 1 := by
      rw [List.length_append, List.length_take, List.length_singleton]
      omega
    have hgone : ∀ i, j < i → i < S.length → segO L2 p i = none := fun i h4 h5 => by
      rw [segO_lk (by omega), hnow.there _ (fun e => by have := nameW_inj (by omega) (by omega) e; omega)]
      exact hg.gone i (by omega) h5
    have hout : ∀ i, S.length ≤ i → i < 1000000 → segO L2 p i = segO L p i := fun i h4 h5 => by
      rw [segO_lk (by omega), segO_lk (by omega), hnow.there _ (fun e => by have := nameW_inj (by omega) (by omega) e; omega)]
      exact hg.keep _ (fun k h6 h7 e => by have := nameW_inj (by omega) (by omega) e; omega)
    have hend : ∀ i, j < i → i ≤ S.length → segO L2 p i = none := fun i h4 h5 => by
      rcases Nat.lt_or_ge i S.length with e | e
      · exact hgone i h4 e
      · obtain rfl : i = S.length := by omega
        rcases Nat.lt_or_ge S.length 1000000 with e2 | e2
        · rw [hout _ (Nat.le_refl _) e2]
          exact hlog.out
        · exact segO_out (by omega)
    have hlog2 : IsLog L2 p (S.take j ++ [cutF S[j] (nameW p j)]) := by
      refine ⟨fun i hi => ?_, ?_⟩
      · rw [hlen] at hi
        rcases Nat.lt_or_ge i j with e | e
        · rw [List.getElem_append_left (by rw [List.length_take]; omega), List.getElem_take, segO_lk (by omega), hnow.there _ (fun e => by have := nameW_inj (by omega) (by omega) e; omega), hg.keep _ (fun k h6 h7 e => by have := nameW_inj (by omega) (by omega) e; omega), ← segO_lk (by omega)]
          exact hlog.at_ i (by omega)
        · obtain rfl : i = j := by omega
          rw [List.getElem_append_right (by rw [List.length_take]; omega), List.getElem_singleton, segO_lk (by omega)]
          exact hnow.here
      · rw [hlen]
        exact hend (j + 1) (by omega) (by omega)
    refine ⟨L2, S.take j ++ [cutF S[j] (nameW p j)], ?_, hlog2, ?_, ?_, ?_, ?_, ?_, ?_⟩
    · have h0 : (run L (dropsO p (j + 1) S.length)).2.2 = 0 := by rw [hr1]
      rw [run_append h0, hr1]
      show bump _ (run L1 [cutO p j (bytesOf (recsF S[j]))]) = _
      rw [run_ok (by rw [hst]), hst]
      simp [bump, run, Nat.add_comm]
    · intro f hf
      rcases List.mem_append.1 hf with h | h
      · exact h1 f h
      · rw [List.mem_singleton.1 h]
        exact cutF_whole _ _
    · rw [List.flatMap_append, List.flatMap_singleton, cutF_recs]
    · unfold Dist
      rw [hL2, names_set hjl rfl]
      exact hg.nd
    · rw [hL2, List.length_set]
      exact hg.len
    · intro B hB f hf
      rw [hL2] at hf
      rcases List.mem_or_eq_of_mem_set hf with h | h
      · exact hB f (hg.sub f h)
      · rw [h]
        exact Nat.le_trans (cutF_size _ _) (hB _ (segL_mem (L := L) (p := p) (by rw [← hS]; exact List.getElem_mem hj)))
    · intro hs i hi
      rw [hlog2.segs.2, hlen] at hi
      rcases Nat.lt_or_ge S.length i with e | e
      · rcases Nat.lt_or_ge i 1000000 with e2 | e2
        · rw [hout i (by omega) e2]
          exact hs i (by rw [hlog.segs.2]; exact e)
        · exact segO_out (by omega)
      · exact hend i (by omega) e
/-- A log that was dropped. -/
theorem dropped {L : List F} {p : ByteArray} (hp : prefixB p = true) (hd : Dist L) : ∃ L', run L (dropsO p 0 (segN L p)) = (L', (dropsO p 0 (segN L p)).length, 0) ∧ IsLog L' p [] ∧ (∀ f ∈ L', f ∈ L) ∧ L'.length ≤ L.length := by
  have hlog := isLog L p
  have hn := segL_len L p
  have hfew := hlog.few.1
  rw [hn] at hfew
  obtain ⟨L', hr, hg⟩ := run_drops hp 0 (segN L p) L hfew hd (fun i _ hi => by
    rw [← segO_lk (by omega), hlog.at_ i (by rw [hn]; exact hi)]
    exact Option.some_ne_none _)
  refine ⟨L', hr, ⟨fun i hi => absurd hi (Nat.not_lt_zero _), ?_⟩, hg.sub, hg.len⟩
  show segO L' p 0 = none
  rw [segO_lk (by decide)]
  rcases Nat.eq_zero_or_pos (segN L p) with e | e
  · rw [hg.keep _ (fun i _ h => absurd h (by omega)), ← segO_lk (by decide)]
    have := hlog.out
    rw [hn, e] at this
    exact this
  · exact hg.gone 0 (Nat.le_refl _) e
end Go.Proofs.YtmkcgnljankmdaaDoor
