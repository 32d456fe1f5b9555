/- Plain mathematics of logs: records appended one by one, made safe, and a crash. -/
import Derived.Test.YtmkcgnljankmdaaDoorWalL
namespace Go.Proofs.YtmkcgnljankmdaaDoor

/-- How many records are safe. -/
def safeC : List F → Nat
  | [] => 0
  | [f] => (scanAll f.kept.data.toList).length
  | f :: g :: r => (recsF f).length + safeC (g :: r)
theorem safeC_snoc (f : F) : ∀ Y : List F, safeC (Y ++ [f]) = (Y.flatMap recsF).length + (scanAll f.kept.data.toList).length
  | [] => by simp [safeC]
  | [g] => by simp [safeC]
  | g :: h :: r => by
    have := safeC_snoc f (h :: r)
    show (recsF g).length + safeC (h :: r ++ [f]) = _
    have e : (g :: h :: r).flatMap recsF = recsF g ++ (h :: r).flatMap recsF := List.flatMap_cons
    rw [this, e, List.length_append]
    omega
theorem fbytes_kept (f : F) : f.kept.data.toList = (fbytes f).take f.kept.size := by
  unfold fbytes
  rw [append_data, size_list, List.take_left]
theorem kept_few (f : F) : (scanAll f.kept.data.toList).length ≤ (recsF f).length := by
  rw [fbytes_kept]
  exact (scan_prefix (fbytes f) f.kept.size).length_le
/-- The disk behind some records, of which s at least are safe. -/
structure KI (L X : List F) (R : List (List UInt8)) (s : Nat) : Prop where
  log : IsLog L wBB X
  gap : ∀ j, X.length < j → segO L wBB j = none
  whole : ∀ f ∈ X, ¬ tornF f
  recs : X.flatMap recsF = R
  firm : ∀ i (hi : i + 1 < X.length), X[i].loose = ⟨#[]⟩
  safe : s ≤ safeC X
  nd : Dist L
  size : ∀ f ∈ L, f.size ≤ 1048576
  len : L.length ≤ 64
  fit : Fit L
theorem ki_start : KI [] [] [] 0 where
  log := ⟨fun i hi => absurd hi (Nat.not_lt_zero _), rfl⟩
  gap := fun j _ => by unfold segO; split <;> rfl
  whole := fun f hf => by cases hf
  recs := rfl
  firm := fun i hi => absurd hi (Nat.not_lt_zero _)
  safe := Nat.le_refl _
  nd := List.nodup_nil
  size := fun f hf => by cases hf
  len := Nat.zero_le _
  fit := fun f hf => by cases hf
theorem fine_run {L L' : List F} {ops : List O} {n : Nat} (h : run L ops = (L', n, 0)) (hf : Fit L) : Fit L' := by
  have := run_fit (ops := ops) hf
  rw [h] at this
  exact this
theorem ki_sync {L X : List F} {R : List (List UInt8)} {s : Nat} (hp : prefixB wBB = true) (h : KI L X R s) : ∃ L' X', run L (syncPlan L wBB) = (L', (syncPlan L wBB).length, 0) ∧ KI L' X' R R.length := by
  have hn := h.log.segs.2
  have hfew := h.log.few.1
  rcases List.eq_nil_or_concat X with hX | ⟨Y, f, hX⟩
  · subst hX
    have hpl : syncPlan L wBB = [] := by unfold syncPlan; rw [hn]; rfl
    rw [hpl]
    refine ⟨L, [], rfl, ⟨h.log, h.gap, h.whole, h.recs, h.firm, ?_, h.nd, h.size, h.len, h.fit⟩⟩
    rw [← h.recs]
    exact Nat.le_refl _
  · rw [List.concat_eq_append] at hX
    subst hX
    have hl : ∀ x : F, (Y ++ [x]).length = Y.length + 1 := fun x => by rw [List.length_append, List.length_singleton]
    rw [hl] at hn hfew
    have hpl : syncPlan L wBB = [syncO wBB Y.length] := by unfold syncPlan; rw [hn, if_neg (by omega), Nat.add_sub_cancel]
    have hlkf : lk L (nameW wBB Y.length) = some f := by
      rw [← segO_lk (by omega), h.log.at_ Y.length (by rw [hl]; omega), List.getElem_append_right (Nat.le_refl _)]
      simp
    obtain ⟨L', hst, hnow, hfine⟩ := step_syncO hp hlkf
    have hrun : run L (syncPlan L wBB) = (L', (syncPlan L wBB).length, 0) := by rw [hpl]; exact run_one hst
    have hby : fbytes ⟨f.name, f.kept ++ f.loose, ⟨#[]⟩⟩ = fbytes f := by unfold fbytes; rw [append_nil]
    have hre : recsF ⟨f.name, f.kept ++ f.loose, ⟨#[]⟩⟩ = recsF f := by unfold recsF; rw [hby]
    have hrec := h.recs
    rw [List.flatMap_append, List.flatMap_singleton] at hrec
    refine ⟨L', Y ++ [⟨f.name, f.kept ++ f.loose, ⟨#[]⟩⟩], hrun, ⟨h.log.put hnow, fun j hj => ?_, fun g hg => ?_, ?_, fun i hi => ?_, ?_, hfine.nd h.nd, hfine.size h.size, by have := hfine.len; have := h.len; omega, fine_run hrun h.fit⟩⟩
    · rw [hl] at hj
      rw [now_gap hnow (by omega) (by omega)]
      exact h.gap j (by rw [hl]; exact hj)
    · rcases List.mem_append.1 hg with h1 | h1
      · exact h.whole g (List.mem_append.2 (.inl h1))
      · rw [List.mem_singleton.1 h1]
        unfold tornF
        rw [hre, hby]
        exact h.whole f (by simp)
    · rw [List.flatMap_append, List.flatMap_singleton, hre]
      exact hrec
    · rw [hl] at hi
      rw [List.getElem_append_left (by omega)]
      have := h.firm i (by rw [hl]; exact hi)
      rw [List.getElem_append_left (by omega)] at this
      exact this
    · rw [safeC_snoc, ← hrec, List.length_append]
      exact Nat.le_refl _
theorem ki_append {L X : List F} {R : List (List UInt8)} {s : Nat} {record : ByteArray} (hp : prefixB wBB = true) (h : KI L X R s) (hr : record.size ≤ 65536) :
    (appendPlan L wBB record).2 = 0 ∧ ((run L (appendPlan L wBB record).1).2.2 = 4 ∨ ∃ L' X', run L (appendPlan L wBB record).1 = (L', (appendPlan L wBB record).1.length, 0) ∧ KI L' X' (R ++ [record.data.toList]) s) := by
  rcases grow hp h.log h.gap hr with ⟨_, h6⟩ | ⟨h0, hg⟩
  · have := h.log.few.2
    have := h.len
    omega
  · refine ⟨h0, ?_⟩
    rcases hg with h4 | ⟨L', X', hrun, hlog, hgr, hfine, hgap⟩
    · exact .inl h4
    · obtain ⟨hw, hre⟩ := grown_recs hr h.whole hgr
      refine .inr ⟨L', X', hrun, ⟨hlog, hgap, hw, by rw [hre, h.recs], fun i hi => ?_, ?_, hfine.nd h.nd, hfine.size h.size, by have := hfine.len; have := h.len; omega, fine_run hrun h.fit⟩⟩
      · have hfirm := h.firm
        cases hgr with
        | first => exact absurd hi (by simp)
        | fits Y f _ =>
          rw [List.length_append, List.length_singleton] at hi
          have := hfirm i (by rw [List.length_append, List.length_singleton]; exact hi)
          rw [List.getElem_append_left (by omega)] at this ⊢
          exact this
        | next Y f =>
          rw [List.length_append] at hi
          simp only [List.length_cons, List.length_nil] at hi
          rcases Nat.lt_or_ge i Y.length with e | e
          · have := hfirm i (by rw [List.length_append, List.length_singleton]; omega)
            rw [List.getElem_append_left e] at this ⊢
            exact this
          · obtain rfl : i = Y.length := by omega
            rw [List.getElem_append_right (Nat.le_refl _)]
            simp
      · have hsafe := h.safe
        cases hgr with
        | first => exact Nat.le_trans hsafe (Nat.zero_le _)
        | fits Y f _ =>
          rw [safeC_snoc] at hsafe ⊢
          exact hsafe
        | next Y f =>
          rw [safeC_snoc] at hsafe
          have e : Y ++ [⟨f.name, f.kept ++ f.loose, ⟨#[]⟩⟩, ⟨nameW wBB (Y.length + 1), ⟨#[]⟩, frameB record⟩] = (Y ++ [⟨f.name, f.kept ++ f.loose, ⟨#[]⟩⟩]) ++ [⟨nameW wBB (Y.length + 1), ⟨#[]⟩, frameB record⟩] := by rw [List.append_assoc]; rfl
          have hre2 : recsF ⟨f.name, f.kept ++ f.loose, ⟨#[]⟩⟩ = recsF f := by unfold recsF fbytes; rw [append_nil]
          rw [e, safeC_snoc, List.flatMap_append, List.flatMap_singleton, hre2, List.length_append]
          have := kept_few f
          omega

theorem findF_crash (L : List F) (K : List Int) (nm : ByteArray) : findF (crash L K) nm = findF L nm := by
  have hn : ∀ j (h1 : j < (crash L K).length) (h2 : j < L.length), (crash L K)[j].name = L[j].name := fun j h1 h2 => by rw [crash_at h2]; rfl
  by_cases h : findF L nm < L.length
  · exact findF_eq (by rw [crash_len]; exact h) (by rw [hn _ _ h]; exact findF_name h) (fun j hj => by
      have : j < L.length := by omega
      rw [hn _ _ this]
      exact findF_before hj this)
  · have he : findF L nm = L.length := by have := findF_le L nm; omega
    rw [he, ← crash_len L K]
    exact findF_none (fun j hj => by
      have : j < L.length := by rw [crash_len] at hj; exact hj
      rw [hn _ _ this]
      exact findF_before (by omega) this)
theorem lk_crash (L : List F) (K : List Int) (nm : ByteArray) : lk (crash L K) nm = (lk L nm).map fun f => crashAt f K (findF L nm) := by
  rw [← lk_at, ← lk_at, findF_crash]
  unfold crash
  rw [List.getElem?_mapIdx]
theorem names_crash (L : List F) (K : List Int) : (crash L K).map F.name = L.map F.name := by
  apply List.ext_getElem
  · rw [List.length_map, List.length_map, crash_len]
  · intro i h1 h2
    rw [List.length_map] at h2
    simp only [List.getElem_map]
    rw [crash_at h2]
    rfl
theorem crashAt_bytes (f : F) (K : List Int) (i : Nat) : fbytes (crashAt f K i) = (fbytes f).take (f.kept.size + amount f K i) := by
  unfold crashAt fbytes
  simp only
  rw [append_nil, append_data, append_data, ext_list, List.drop_zero, Nat.sub_zero, List.take_append, ← size_list f.kept, show List.take (f.kept.size + amount f K i) f.kept.data.toList = f.kept.data.toList from List.take_of_length_le (by rw [← size_list]; omega), Nat.add_sub_cancel_left]
theorem crashAt_firm {f : F} (h : f.loose = ⟨#[]⟩) (K : List Int) (i : Nat) : fbytes (crashAt f K i) = fbytes f := by
  rw [crashAt_bytes, List.take_of_length_le]
  rw [fbytes_len]
  unfold F.size
  rw [h, size_nil]
  omega
theorem crashAt_size (f : F) (K : List Int) (i : Nat) : (crashAt f K i).size ≤ f.size := by
  rw [← fbytes_len, ← fbytes_len, crashAt_bytes, List.length_take]
  omega
theorem open_last {p : ByteArray} {m : Nat} {z : F} : ∀ (Z : List F) (i : Nat), (∀ f ∈ Z, ¬ tornF f) → (openS p m i (Z ++ [z])).1 = Z.flatMap recsF ++ recsF z
  | [], i, _ => by
    by_cases ht : tornF z
    · show (openS p m i [z]).1 = _
      rw [openS_torn ht]
      rfl
    · show (openS p m i [z]).1 = _
      rw [openS_whole ht]
      show recsF z ++ [] = _
      rw [List.append_nil]
      rfl
  | f :: Z, i, h => by
    show (openS p m i (f :: (Z ++ [z]))).1 = _
    rw [openS_whole (h f List.mem_cons_self)]
    show recsF f ++ (openS p m (i + 1) (Z ++ [z])).1 = _
    rw [open_last Z (i + 1) (fun g hg => h g (List.mem_cons_of_mem _ hg)), List.flatMap_cons, List.append_assoc]
/-- P5.2, P5.3: behind a crash a beginning is told, with all that were safe. -/
theorem ki_crash {L X : List F} {R : List (List UInt8)} {s : Nat} (h : KI L X R s) (K : List Int) : (openW (crash L K) wBB).1 <+: R ∧ s ≤ (openW (crash L K) wBB).1.length ∧ Dist (crash L K) ∧ (∀ f ∈ crash L K, f.size ≤ 1048576) ∧ Fit (crash L K) := by
  have hseg : ∀ i, segO (crash L K) wBB i = (segO L wBB i).map fun f => crashAt f K (findF L (nameW wBB i)) := fun i => by
    rcases Nat.lt_or_ge i 1000000 with e | e
    · rw [segO_lk e, segO_lk e, lk_crash]
    · rw [segO_out (by omega), segO_out (by omega)]
      rfl
  refine ⟨?_, ?_, ?_, ?_, crash_fit h.fit⟩
  rotate_left 2
  · unfold Dist
    rw [names_crash]
    exact h.nd
  · intro f hf
    obtain ⟨i, hi, rfl⟩ := List.mem_iff_getElem.1 hf
    have h3 : i < L.length := by rw [crash_len] at hi; exact hi
    rw [crash_at h3]
    exact Nat.le_trans (crashAt_size _ _ _) (h.size _ (List.getElem_mem h3))
  all_goals
    rcases List.eq_nil_or_concat X with hX | ⟨Y, f, hX⟩
    · subst hX
      have hlog : IsLog (crash L K) wBB [] := ⟨fun i hi => absurd hi (Nat.not_lt_zero _), by rw [hseg, h.log.out]; rfl⟩
      have ho : openW (crash L K) wBB = ([], []) := hlog.opens (fun f hf => by cases hf)
      rw [ho]
      first
        | exact List.nil_prefix
        | exact h.safe
    · rw [List.concat_eq_append] at hX
      subst hX
      have hl : ∀ x : F, (Y ++ [x]).length = Y.length + 1 := fun x => by rw [List.length_append, List.length_singleton]
      obtain ⟨Z, hZ⟩ : ∃ Z, Z = Y.mapIdx fun i g => crashAt g K (findF L (nameW wBB i)) := ⟨_, rfl⟩
      have hZl : Z.length = Y.length := by rw [hZ, List.length_mapIdx]
      obtain ⟨z, hz⟩ : ∃ z, z = crashAt f K (findF L (nameW wBB Y.length)) := ⟨_, rfl⟩
      have hzl : ∀ i (hi : i < Z.length), Z[i] = crashAt (Y[i]'(by omega)) K (findF L (nameW wBB i)) := fun i hi => by subst hZ; rw [List.getElem_mapIdx]
      have hlog : IsLog (crash L K) wBB (Z ++ [z]) := by
        refine ⟨fun i hi => ?_, ?_⟩
        · rw [List.length_append, List.length_singleton, hZl] at hi
          have hat := h.log.at_ i (by rw [hl]; exact hi)
          rw [hseg, hat, Option.map_some]
          rcases Nat.lt_or_ge i Y.length with e | e
          · rw [List.getElem_append_left e, List.getElem_append_left (show i < Z.length by omega), hzl i (by omega)]
          · obtain rfl : i = Y.length := by omega
            rw [List.getElem_append_right (Nat.le_refl _), List.getElem_append_right (by omega)]
            simp [hz]
        · have := h.log.out
          rw [hl] at this
          rw [List.length_append, List.length_singleton, hZl, hseg, this]
          rfl
      have hby : ∀ i (hi : i < Z.length), fbytes Z[i] = fbytes (Y[i]'(by omega)) := fun i hi => by
        have hf2 := h.firm i (by rw [hl]; omega)
        rw [List.getElem_append_left (by omega)] at hf2
        rw [hzl i hi]
        exact crashAt_firm hf2 _ _
      have hwZ : ∀ g ∈ Z, ¬ tornF g := fun g hg => by
        obtain ⟨i, hi, rfl⟩ := List.mem_iff_getElem.1 hg
        have hY : i < Y.length := by omega
        have := h.whole Y[i] (List.mem_append.2 (.inl (List.getElem_mem hY)))
        unfold tornF recsF at this ⊢
        rw [hby i hi]
        exact this
      have hrZ : Z.flatMap recsF = Y.flatMap recsF := by
        rw [List.flatMap_def, List.flatMap_def]
        congr 1
        apply List.ext_getElem
        · rw [List.length_map, List.length_map, hZl]
        · intro i h1 h2
          rw [List.length_map] at h1
          simp only [List.getElem_map]
          unfold recsF
          rw [hby i h1]
      have ho : (openW (crash L K) wBB).1 = Y.flatMap recsF ++ recsF z := by
        unfold openW
        rw [hlog.segs.1, open_last Z 0 hwZ, hrZ]
      have hrec := h.recs
      rw [List.flatMap_append, List.flatMap_singleton] at hrec
      have hzp : recsF z <+: recsF f := by
        unfold recsF
        rw [hz, crashAt_bytes]
        exact scan_prefix _ _
      rw [ho]
      first
        | (rw [← hrec]
           exact (List.prefix_append_right_inj _).2 hzp)
        | (have hs := h.safe
           rw [safeC_snoc] at hs
           have hk : scanAll f.kept.data.toList <+: recsF z := by
             have e : f.kept.data.toList = (fbytes z).take f.kept.size := by
               rw [hz, crashAt_bytes, List.take_take, Nat.min_eq_left (by omega)]
               exact fbytes_kept f
             rw [e]
             exact scan_prefix _ _
           have := hk.length_le
           rw [List.length_append]
           omega)
end Go.Proofs.YtmkcgnljankmdaaDoor
