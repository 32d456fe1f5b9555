/- Mathematics of a store: disks behind operations; logs beside other files. Mathematics of a store: names of its files; what a table's keeping leaves. Mathematics of a store: what holds of each store that comes of the empty disk; Safe and Write keep it. -/
import Derived.Test.YtlnhbndghnkfmaaGreatDoorZm46
namespace Go.Proofs.YtlnhbndghnkfmaaGreatDoor

theorem cut_size (s : ByteArray) (k : Nat) : (s.extract 0 k).size ≤ s.size := by
  rw [ByteArray.size_extract]
  omega
theorem fine_refl (L : List F) : Fine L L := ⟨fun h => h, fun h => h, Nat.le_max_left _ _⟩
theorem set_fine {L : List F} {nm : ByteArray} {f g : F} (h : lk L nm = some f) (hn : g.name = nm) (hs : f.size ≤ 1048576 → g.size ≤ 1048576) : Fine L (L.set (findF L nm) g) := by
  obtain ⟨hi, he, hfn⟩ := lk_some h
  refine ⟨fun hd => ?_, fun hz x hx => ?_, by rw [List.length_set]; exact Nat.le_max_left _ _⟩
  · unfold Dist at hd ⊢
    rw [names_set h hn]
    exact hd
  · rcases List.mem_or_eq_of_mem_set hx with h1 | h1
    · exact hz x h1
    · rw [h1]
      exact hs (by rw [← he]; exact hz _ (List.getElem_mem hi))
theorem step_fine (L : List F) (o : O) : Fine L (step L o).2 := by
  by_cases hb : badOp o
  · unfold step
    rw [if_pos hb]
    exact fine_refl L
  · rcases hl : lk L o.name with _ | f
    · rw [step_none hb hl]
      split
      · split
        · exact fine_refl L
        · split
          · exact fine_refl L
          · rename_i h64 hsz
            refine ⟨fun hd => names_new hl rfl hd, fun hz x hx => ?_, ?_⟩
            · rcases (List.mem_insertIdx (placeF_le L o.name)).1 hx with h1 | h1
              · rw [h1]
                show (⟨#[]⟩ : ByteArray).size + o.bytes.size ≤ 1048576
                rw [size_nil]
                omega
              · exact hz x h1
            · show (L.insertIdx _ _).length ≤ _
              rw [List.length_insertIdx_of_le_length (placeF_le L o.name)]
              omega
      · exact fine_refl L
    · have hfn := (lk_some hl).2.2
      rw [step_some hb hl]
      split
      · split
        · exact fine_refl L
        · rename_i h
          refine set_fine hl hfn (fun _ => ?_)
          show f.kept.size + (f.loose ++ o.bytes).size ≤ _
          unfold F.size at h
          rw [append_len]
          omega
      · split
        · refine set_fine hl hfn (fun h => ?_)
          show (f.kept ++ f.loose).size + (⟨#[]⟩ : ByteArray).size ≤ _
          unfold F.size at h
          rw [append_len, size_nil]
          omega
        · split
          · split
            · exact fine_refl L
            · refine set_fine hl hfn (fun h => ?_)
              show ((f.kept ++ f.loose).extract 0 o.at_.toNat).size + (⟨#[]⟩ : ByteArray).size ≤ _
              have := cut_size (f.kept ++ f.loose) o.at_.toNat
              unfold F.size at h
              rw [append_len] at this
              rw [size_nil]
              omega
          · refine ⟨fun hd => names_drop hd, fun hz x hx => hz x (List.mem_of_mem_eraseIdx hx), ?_⟩
            show (L.eraseIdx _).length ≤ _
            have := List.length_eraseIdx_le L (findF L o.name)
            omega
theorem run_fine (ops : List O) : ∀ L : List F, Fine L (run L ops).1 := by
  induction ops with
  | nil => exact fun L => fine_refl L
  | cons o r ih =>
    intro L
    by_cases h : (step L o).1 = 0
    · rw [run_ok h]
      exact (step_fine L o).trans (ih _)
    · rw [run_no h]
      exact fine_refl L
theorem step_lk {L : List F} {o : O} {nm : ByteArray} (h : o.name ≠ nm) : lk (step L o).2 nm = lk L nm := by
  unfold lk step
  split
  · rfl
  have hi : ∀ hh : findF L o.name < L.length, L[findF L o.name].name ≠ nm := fun hh => by rw [findF_name hh]; exact h
  unfold stepAt
  split
  · split
    · split
      · rfl
      · split
        · rfl
        · exact find_insert h
    · rfl
  · rename_i f hf
    obtain ⟨hh, hfe⟩ := List.getElem?_eq_some_iff.1 hf
    have hn : f.name ≠ nm := by rw [← hfe]; exact hi hh
    split
    · split
      · rfl
      · exact find_set hi hn
    · split
      · exact find_set hi hn
      · split
        · split
          · rfl
          · exact find_set hi hn
        · exact find_erase hi
theorem run_lk {nm : ByteArray} : ∀ {ops : List O} {L : List F}, (∀ o ∈ ops, o.name ≠ nm) → lk (run L ops).1 nm = lk L nm
  | [], L, _ => rfl
  | o :: r, L, h => by
    by_cases h0 : (step L o).1 = 0
    · rw [run_ok h0]
      show lk (run (step L o).2 r).1 nm = _
      rw [run_lk (fun x hx => h x (List.mem_cons_of_mem _ hx)), step_lk (h o List.mem_cons_self)]
    · rw [run_no h0]
/-- What holds of every disk that comes of the empty one. -/
structure Glob (L : List F) : Prop where
  nd : Dist L
  size : ∀ f ∈ L, f.size ≤ 1048576
  len : L.length ≤ 64
  fit : Fit L
  names : ∀ f ∈ L, nameOk f.name = true
theorem glob_nil : Glob [] := ⟨List.nodup_nil, fun f h => by (cases h), Nat.zero_le _, fun f h => by (cases h), fun f h => by (cases h)⟩
theorem step_names {L : List F} {o : O} (h : ∀ f ∈ L, nameOk f.name = true) : ∀ f ∈ (step L o).2, nameOk f.name = true := by
  by_cases hb : badOp o
  · unfold step
    rw [if_pos hb]
    exact h
  · have hok : nameOk o.name = true := by
      unfold badOp at hb
      cases hn : nameOk o.name with
      | true => rfl
      | false => exact absurd (.inr (.inr hn)) hb
    have hset : ∀ (g : F), g.name = o.name → ∀ f ∈ L.set (findF L o.name) g, nameOk f.name = true := fun g hg f hf => by
      rcases List.mem_or_eq_of_mem_set hf with h1 | h1
      · exact h f h1
      · rw [h1, hg]; exact hok
    rcases hl : lk L o.name with _ | f
    · rw [step_none hb hl]
      split
      · split
        · exact h
        · split
          · exact h
          · intro x hx
            rcases (List.mem_insertIdx (placeF_le L o.name)).1 hx with h1 | h1
            · rw [h1]; exact hok
            · exact h x h1
      · exact h
    · have hfn := (lk_some hl).2.2
      rw [step_some hb hl]
      split
      · split
        · exact h
        · exact hset _ hfn
      · split
        · exact hset _ hfn
        · split
          · split
            · exact h
            · exact hset _ hfn
          · exact fun x hx => h x (List.mem_of_mem_eraseIdx hx)
theorem run_names : ∀ {ops : List O} {L : List F}, (∀ f ∈ L, nameOk f.name = true) → ∀ f ∈ (run L ops).1, nameOk f.name = true
  | [], _, h => h
  | o :: r, L, h => by
    by_cases h0 : (step L o).1 = 0
    · rw [run_ok h0]
      exact run_names (step_names h)
    · rw [run_no h0]
      exact h
theorem run_glob {L : List F} (h : Glob L) (ops : List O) : Glob (run L ops).1 :=
  ⟨(run_fine ops L).nd h.nd, (run_fine ops L).size h.size, by have := (run_fine ops L).len; have := h.len; omega, run_fit h.fit, run_names h.names⟩
theorem filter_glob {L : List F} (h : Glob L) (q : F → Bool) : Glob (L.filter q) :=
  ⟨List.Nodup.sublist ((List.filter_sublist (p := q) (l := L)).map F.name) h.nd, fun f hf => h.size f (List.mem_filter.1 hf).1, Nat.le_trans (List.length_filter_le _ _) h.len, fun f hf => h.fit f (List.mem_filter.1 hf).1, fun f hf => h.names f (List.mem_filter.1 hf).1⟩
theorem lk_mem {L : List F} (hd : Dist L) {f : F} (hf : f ∈ L) : lk L f.name = some f := by
  unfold lk
  induction L with
  | nil => cases hf
  | cons x r ih =>
    unfold Dist at hd
    rw [List.map_cons, List.nodup_cons] at hd
    rcases List.mem_cons.1 hf with h1 | h1
    · subst h1
      rw [List.find?_cons_of_pos (by exact eqS_self _)]
    · have hne : x.name ≠ f.name := fun e => hd.1 (by rw [e]; exact List.mem_map_of_mem h1)
      rw [List.find?_cons_of_neg (by rw [eqS_ne hne]; decide)]
      exact ih hd.2 h1
theorem lk_filter {L : List F} {q : ByteArray → Bool} {nm : ByteArray} (h : q nm = true) : lk (L.filter fun f => q f.name) nm = lk L nm := by
  unfold lk
  rw [List.find?_filter]
  congr 1
  funext f
  by_cases he : f.name = nm
  · rw [he, h]
    simp
  · rw [eqS_ne he]
    simp
/-- A log beside files of other names. -/
theorem log_same {L L' : List F} {p : ByteArray} {X : List F} (h : IsLog L p X) (hs : ∀ i, lk L' (nameW p i) = lk L (nameW p i)) : IsLog L' p X := by
  have hseg : ∀ i, segO L' p i = segO L p i := fun i => by
    rcases Nat.lt_or_ge i 1000000 with e | e
    · rw [segO_lk e, segO_lk e, hs]
    · rw [segO_out (by omega), segO_out (by omega)]
  exact ⟨fun i hi => by rw [hseg]; exact h.at_ i hi, by rw [hseg]; exact h.out⟩
theorem KL.same {L L' : List F} {p : ByteArray} {X : List F} {R : List (List UInt8)} {s : Nat} (h : KL p L X R s) (hs : ∀ i, lk L' (nameW p i) = lk L (nameW p i)) (hg : Glob L') : KL p L' X R s := by
  have hseg : ∀ i, segO L' p i = segO L p i := fun i => by
    rcases Nat.lt_or_ge i 1000000 with e | e
    · rw [segO_lk e, segO_lk e, hs]
    · rw [segO_out (by omega), segO_out (by omega)]
  exact ⟨log_same h.log hs, fun j hj => by rw [hseg]; exact h.gap j hj, h.whole, h.recs, h.firm, h.safe, hg.nd, hg.size, hg.len, hg.fit⟩
theorem kl_empty {L : List F} {p : ByteArray} (hg : Glob L) (hs : ∀ i, lk L (nameW p i) = none) : KL p L [] [] 0 := by
  have hseg : ∀ i, segO L p i = none := fun i => by
    rcases Nat.lt_or_ge i 1000000 with e | e
    · rw [segO_lk e, hs]
    · exact segO_out (by omega)
  exact ⟨⟨fun i hi => absurd hi (Nat.not_lt_zero _), hseg _⟩, fun j _ => hseg j, fun f h => by (cases h), rfl, fun i hi => absurd hi (Nat.not_lt_zero _), Nat.le_refl _, hg.nd, hg.size, hg.len, hg.fit⟩
/-- Where all records are safe nothing is loose. -/
theorem kl_firm {L : List F} {p : ByteArray} {X : List F} {R : List (List UInt8)} (h : KL p L X R R.length) : ∀ f ∈ X, f.loose = ⟨#[]⟩ := by
  intro f hf
  obtain ⟨i, hi, rfl⟩ := List.mem_iff_getElem.1 hf
  by_cases hl : i + 1 < X.length
  · exact h.firm i hl
  · rcases List.eq_nil_or_concat X with hX | ⟨Y, z, hX⟩
    · subst hX; exact absurd hi (Nat.not_lt_zero _)
    · rw [List.concat_eq_append] at hX
      subst hX
      have e : i = Y.length := by
        rw [List.length_append, List.length_singleton] at hi hl
        omega
      subst e
      rw [List.getElem_append_right (Nat.le_refl _)]
      simp only [Nat.sub_self, List.getElem_cons_zero]
      have hs := h.safe
      have hr := h.recs
      rw [List.flatMap_append, List.flatMap_singleton] at hr
      rw [safeC_snoc, ← hr, List.length_append] at hs
      have hk := kept_few z
      have hw := h.whole z (by simp)
      have hpre : scanAll z.kept.data.toList <+: recsF z := by
        rw [fbytes_kept]
        exact scan_prefix (fbytes z) z.kept.size
      have heq : scanAll z.kept.data.toList = recsF z := hpre.eq_of_length (by omega)
      have hb := bytesOf_scan z.kept.data.toList.length z.kept.data.toList (Nat.le_refl _)
      have hsc : bytesOf (recsF z) ≤ z.kept.data.toList.length := by
        rw [← heq]
        exact hb
      unfold tornF at hw
      rw [fbytes_len] at hw
      rw [← size_list] at hsc
      unfold F.size at hw
      have h0 : z.loose.size = 0 := by omega
      have : z.loose.data.toList = [] := List.length_eq_zero_iff.1 (by rw [← size_list]; exact h0)
      exact bytes_ext this
/-- A record's plan depends on the log alone. -/
theorem plan_same {L L' : List F} {p : ByteArray} {X : List F} (h : IsLog L p X) (h' : IsLog L' p X) (r : ByteArray) : appendPlan L p r = appendPlan L' p r := by
  have e1 := h.segs.2
  have e2 := h'.segs.2
  have el : lastF L p = lastF L' p := by
    unfold lastF
    rw [e1, e2]
    rcases Nat.eq_zero_or_pos X.length with h0 | h0
    · rw [h0]
      have a := h.out
      have b := h'.out
      rw [h0] at a b
      show ((segO L p (0 - 1)).getD zeroF) = ((segO L' p (0 - 1)).getD zeroF)
      rw [Nat.zero_sub, a, b]
    · rw [h.at_ _ (by omega), h'.at_ _ (by omega)]
  unfold appendPlan
  rw [e1, e2, el]
end Go.Proofs.YtlnhbndghnkfmaaGreatDoor
namespace Go.Proofs.YtlnhbndghnkfmaaGreatDoor

theorem app_inj {p q x y : ByteArray} (hs : p.size = q.size) (h : p ++ x = q ++ y) : p = q := by
  have e := congrArg (fun b : ByteArray => b.data.toList) h
  simp only [append_data] at e
  have := List.append_inj_left e (by rw [← size_list, ← size_list]; exact hs)
  exact bytes_ext this
theorem nameW_pre {p q : ByteArray} {i j : Nat} (hs : p.size = q.size) (h : nameW p i = nameW q j) : p = q := by
  unfold nameW at h
  rw [ByteArray.append_assoc, ByteArray.append_assoc] at h
  exact app_inj hs h
theorem m_t (i j : Nat) : nameW mP i ≠ nameW tabP j := fun h => by
  have := nameW_pre (p := mP) (q := tabP) rfl h
  exact absurd this (by decide)
theorem log_m (g i j : Nat) : nameW (logW g) i ≠ nameW mP j := fun h => by
  have := congrArg ByteArray.size h
  rw [nameW_size, nameW_size, logW_size] at this
  exact absurd this (by decide)
theorem log_t (g i j : Nat) : nameW (logW g) i ≠ nameW tabP j := fun h => by
  have := congrArg ByteArray.size h
  rw [nameW_size, nameW_size, logW_size] at this
  exact absurd this (by decide)
theorem ofNat_inj {a b : Nat} (ha : a < 256) (hb : b < 256) (h : UInt8.ofNat a = UInt8.ofNat b) : a = b := by
  have := congrArg UInt8.toNat h
  rw [UInt8.toNat_ofNat', UInt8.toNat_ofNat'] at this
  omega
theorem logW_inj {g h : Nat} (hg : g < 676) (hh : h < 676) (e : logW g = logW h) : g = h := by
  unfold logW at e
  injection e with e
  injection e with e
  simp only [List.cons.injEq, and_true] at e
  obtain ⟨-, -, -, -, e4, e5⟩ := e
  have h4 := ofNat_inj (by omega) (by omega) e4
  have h5 := ofNat_inj (by omega) (by omega) e5
  omega
theorem log_log {g h i j : Nat} (hg : g < 676) (hh : h < 676) (hne : g ≠ h) : nameW (logW g) i ≠ nameW (logW h) j := fun e => hne (logW_inj hg hh (nameW_pre (p := logW g) (q := logW h) rfl e))
theorem ext_pre (p x : ByteArray) : (p ++ x).extract 0 p.size = p := by
  apply bytes_ext
  rw [ext_list, append_data, List.drop_zero, Nat.sub_zero, size_list, List.take_left]
theorem behind_own (p : ByteArray) (i : Nat) : behindB p (nameW p i) = true := by
  unfold behindB
  have h1 : cutP (nameW p i) (p ++ dotB) = true := by
    rw [cutP_iff]
    refine ⟨by rw [dot_size, nameW_size]; omega, ?_⟩
    unfold nameW
    exact ext_pre _ _
  rw [h1, decide_eq_true (by rw [nameW_size]; omega)]
  rfl
theorem behind_not {p q : ByteArray} {i : Nat} (hs : p.size = q.size) (hne : p ≠ q) : behindB p (nameW q i) = false := by
  unfold behindB
  have h1 : cutP (nameW q i) (p ++ dotB) = false := by
    cases hc : cutP (nameW q i) (p ++ dotB) with
    | false => rfl
    | true =>
      exfalso
      rw [cutP_iff] at hc
      have h := hc.2
      unfold nameW at h
      rw [show (p ++ dotB).size = (q ++ dotB).size by rw [dot_size, dot_size, hs], ext_pre] at h
      exact hne (app_inj hs h.symm)
  rw [h1]
  rfl
/-- The first byte tells. -/
theorem behind_first {p nm : ByteArray} {x y : UInt8} (hp : p.data.toList.head? = some x) (hn : nm.data.toList.head? = some y) (hne : x ≠ y) : behindB p nm = false := by
  unfold behindB
  have h1 : cutP nm (p ++ dotB) = false := by
    cases hc : cutP nm (p ++ dotB) with
    | false => rfl
    | true =>
      exfalso
      rw [cutP_iff] at hc
      have h := congrArg (fun b : ByteArray => b.data.toList.head?) hc.2
      simp only [ext_list, append_data, List.drop_zero, Nat.sub_zero] at h
      obtain ⟨k, hk⟩ : ∃ k, (p ++ dotB).size = k + 1 := ⟨p.size, dot_size p⟩
      rw [hk, List.head?_take, if_neg (by omega), hn] at h
      rw [List.head?_append, hp] at h
      simp at h
      exact hne h.symm
  rw [h1]
  rfl
theorem nameW_head (p : ByteArray) (i : Nat) (x : UInt8) (h : p.data.toList.head? = some x) : (nameW p i).data.toList.head? = some x := by
  rw [nameW_list, List.head?_append, h]
  rfl
theorem hasS_mem {T : List ByteArray} {nm : ByteArray} : hasS T nm = true ↔ nm ∈ T := by
  unfold hasS
  rw [List.any_eq_true]
  constructor
  · rintro ⟨x, hx, h⟩
    rw [eqS_iff] at h
    rw [h]
    exact hx
  · intro h
    exact ⟨nm, h, eqS_self _⟩
theorem stray_m (T : List ByteArray) (g i : Nat) : strayS T g (nameW mP i) = false := by
  unfold strayS ownB
  rw [behind_own]
  simp
theorem stray_log (T : List ByteArray) (g i : Nat) : strayS T g (nameW (logW g) i) = false := by
  unfold strayS ownB
  rw [behind_own (logW g)]
  simp
theorem stray_tab {T : List ByteArray} {g : Nat} {t : ByteArray} (h : t ∈ T) : strayS T g t = false := by
  unfold strayS ownB
  rw [hasS_mem.2 h]
  simp
theorem stray_oldlog {T : List ByteArray} {g h i : Nat} (hT : ∀ t ∈ T, ∃ k, t = nameW tabP k) (hg : g < 676) (hh : h < 676) (hne : h ≠ g) : strayS T g (nameW (logW h) i) = true := by
  unfold strayS ownB
  rw [nameOk_seg (logW_prefix h) i, behind_first (p := mP) (x := 109) (y := 119) rfl (nameW_head _ _ _ rfl) (by decide), behind_not (p := logW g) (q := logW h) rfl (fun e => hne (logW_inj hh hg e.symm))]
  have : hasS T (nameW (logW h) i) = false := by
    cases hc : hasS T (nameW (logW h) i) with
    | false => rfl
    | true =>
      obtain ⟨k, hk⟩ := hT _ (hasS_mem.1 hc)
      exact absurd hk (log_t h i k)
  rw [this]
  rfl
theorem tabP_ok : prefixB tabP = true := by decide
theorem stray_oldtab {T : List ByteArray} {g i : Nat} (hT : nameW tabP i ∉ T) : strayS T g (nameW tabP i) = true := by
  unfold strayS ownB
  rw [nameOk_seg tabP_ok i, behind_first (p := mP) (x := 109) (y := 116) rfl (nameW_head _ _ _ rfl) (by decide), behind_first (p := logW g) (x := 119) (y := 116) rfl (nameW_head _ _ _ rfl) (by decide)]
  have : hasS T (nameW tabP i) = false := by
    cases hc : hasS T (nameW tabP i) with
    | false => rfl
    | true => exact absurd (hasS_mem.1 hc) hT
  rw [this]
  rfl
/-- Where a disk's names come from. -/
theorem step_from {L : List F} {o : O} {f : F} (hf : f ∈ (step L o).2) : (∃ f0 ∈ L, f0.name = f.name) ∨ o.name = f.name := by
  by_cases hb : badOp o
  · unfold step at hf
    rw [if_pos hb] at hf
    exact .inl ⟨f, hf, rfl⟩
  · have hset : ∀ (g : F), g.name = o.name → f ∈ L.set (findF L o.name) g → (∃ f0 ∈ L, f0.name = f.name) ∨ o.name = f.name := fun g hg hf => by
      rcases List.mem_or_eq_of_mem_set hf with h1 | h1
      · exact .inl ⟨f, h1, rfl⟩
      · rw [h1, hg]; exact .inr rfl
    rcases hl : lk L o.name with _ | f1
    · rw [step_none hb hl] at hf
      split at hf
      · split at hf
        · exact .inl ⟨f, hf, rfl⟩
        · split at hf
          · exact .inl ⟨f, hf, rfl⟩
          · rcases (List.mem_insertIdx (placeF_le L o.name)).1 hf with h1 | h1
            · rw [h1]; exact .inr rfl
            · exact .inl ⟨f, h1, rfl⟩
      · exact .inl ⟨f, hf, rfl⟩
    · have hfn := (lk_some hl).2.2
      rw [step_some hb hl] at hf
      split at hf
      · split at hf
        · exact .inl ⟨f, hf, rfl⟩
        · exact hset _ (by exact hfn) hf
      · split at hf
        · exact hset _ (by exact hfn) hf
        · split at hf
          · split at hf
            · exact .inl ⟨f, hf, rfl⟩
            · exact hset _ (by exact hfn) hf
          · exact .inl ⟨f, List.mem_of_mem_eraseIdx hf, rfl⟩
theorem run_from {f : F} : ∀ {ops : List O} {L : List F}, f ∈ (run L ops).1 → (∃ f0 ∈ L, f0.name = f.name) ∨ ∃ o ∈ ops, o.name = f.name
  | [], L, h => .inl ⟨f, h, rfl⟩
  | o :: r, L, h => by
    by_cases h0 : (step L o).1 = 0
    · rw [run_ok h0] at h
      rcases run_from (ops := r) h with ⟨f0, h1, h2⟩ | ⟨x, h1, h2⟩
      · rcases step_from h1 with ⟨f1, h3, h4⟩ | h3
        · exact .inl ⟨f1, h3, h4.trans h2⟩
        · exact .inr ⟨o, List.mem_cons_self, h3.trans h2⟩
      · exact .inr ⟨x, List.mem_cons_of_mem _ h1, h2⟩
    · rw [run_no h0] at h
      exact .inl ⟨f, h, rfl⟩
theorem sync_names {L : List F} {p : ByteArray} {o : O} (h : o ∈ syncPlan L p) : ∃ i, o.name = nameW p i := by
  unfold syncPlan at h
  split at h
  · cases h
  · rw [List.mem_singleton.1 h]
    exact ⟨_, rfl⟩
theorem append_names {L : List F} {p r : ByteArray} {o : O} (h : o ∈ (appendPlan L p r).1) : ∃ i, o.name = nameW p i := by
  unfold appendPlan at h
  split at h
  · cases h
  · split at h
    · rw [List.mem_singleton.1 h]
      exact ⟨_, rfl⟩
    · split at h
      · rw [List.mem_singleton.1 h]
        exact ⟨_, rfl⟩
      · split at h
        · cases h
        · rcases List.mem_cons.1 h with rfl | h
          · exact ⟨_, rfl⟩
          · rw [List.mem_singleton.1 h]
            exact ⟨_, rfl⟩
theorem bs_data' (x : ByteArray) : bs x.data.toList = x := bytes_ext rfl
def dl (r : ByteArray) : List UInt8 := r.data.toList
theorem run_split {L : List F} {a b : List O} (h : (run L (a ++ b)).2.2 = 0) : (run L a).2.2 = 0 ∧ (run (run L a).1 b).2.2 = 0 ∧ (run L (a ++ b)).1 = (run (run L a).1 b).1 := by
  have h1 : (run L a).2.2 = 0 := by
    induction a generalizing L with
    | nil => rfl
    | cons o r ih =>
      by_cases h0 : (step L o).1 = 0
      · rw [List.cons_append, run_ok h0] at h
        rw [run_ok h0]
        exact ih h
      · rw [List.cons_append, run_no h0] at h
        exact absurd h h0
  have h2 := run_append (b := b) h1
  rw [h2] at h ⊢
  exact ⟨h1, h, rfl⟩
end Go.Proofs.YtlnhbndghnkfmaaGreatDoor
namespace Go.Proofs.YtlnhbndghnkfmaaGreatDoor

/-- A store, its manifest's records, its log's batches, how many of these are safe, a bound of its marks. -/
structure SI (s : St) (R : List ByteArray) (Q : List (List CR)) (n c : Nat) : Prop where
  glob : Glob s.files
  man : ∃ X, KL mP s.files X (R.map dl) R.length
  log : ∃ X, KL (logW s.gen) s.files X (Q.map fun l => packL (recF l)) n
  rep : replayT R ([], 0) = some (s.tabs, s.gen)
  marks : s.marks = R.length
  le : R.length ≤ c
  gen : s.gen ≤ R.length
  ok : ∀ l ∈ Q, batchE l = 0
  mem : s.mem = puts [] Q.flatten
  memL : s.mem.length ≤ 1024
  tab : ∀ t ∈ s.tabs, ∃ f, lk s.files t = some f ∧ f.loose = ⟨#[]⟩ ∧ (allR f.kept.data.toList).isSome = true
  tname : ∀ t ∈ s.tabs, ∃ i, i < R.length ∧ t = nameW tabP i
  few : s.tabs.length ≤ 16
  names : ∀ f ∈ s.files, (∃ i, f.name = nameW mP i) ∨ (∃ i, f.name = nameW (logW s.gen) i) ∨ f.name ∈ s.tabs
theorem si_start : SI st0 [] [] 0 0 where
  glob := glob_nil
  man := ⟨[], kl_start mP⟩
  log := ⟨[], kl_start (logW 0)⟩
  rep := rfl
  marks := rfl
  le := Nat.le_refl _
  gen := Nat.le_refl _
  ok := fun l h => by cases h
  mem := rfl
  memL := Nat.zero_le _
  tab := fun t h => by cases h
  tname := fun t h => by cases h
  few := Nat.zero_le _
  names := fun f h => by cases h
theorem SI.mono {s : St} {R : List ByteArray} {Q : List (List CR)} {n c c' : Nat} (h : SI s R Q n c) (hc : c ≤ c') : SI s R Q n c' :=
  ⟨h.glob, h.man, h.log, h.rep, h.marks, Nat.le_trans h.le hc, h.gen, h.ok, h.mem, h.memL, h.tab, h.tname, h.few, h.names⟩
theorem si_small {s : St} {R : List ByteArray} {Q : List (List CR)} {n c : Nat} (h : SI s R Q n c) : ∀ x ∈ s.mem, x.key.size ≤ 64 ∧ x.val.size ≤ 4096 := by
  intro x hx
  rw [h.mem] at hx
  rcases puts_mem hx with h1 | h1
  · exact absurd h1 List.not_mem_nil
  · obtain ⟨l, hl, hxl⟩ := List.mem_flatten.1 h1
    exact chE_zero ((batchE_zero (h.ok l hl)).2.2 x hxl)
theorem si_ok {s : St} {R : List ByteArray} {Q : List (List CR)} {n c : Nat} (h : SI s R Q n c) (hc : c ≤ 600) : StOk s where
  fit := h.glob.fit
  files := by have := h.glob.len; omega
  mem := by have := h.memL; omega
  tabs := by have := h.few; omega
  mems := fun x hx => by have := si_small h x hx; omega
  names := fun t ht => by
    obtain ⟨i, _, rfl⟩ := h.tname t ht
    rw [nameW_size]
    decide
  gen := by have := h.gen; have := h.le; omega
  marks := by rw [h.marks]; have := h.le; omega
/-- Operations on the log's files alone. -/
theorem si_log {s : St} {R : List ByteArray} {Q Q' : List (List CR)} {n n' c : Nat} {ops : List O} {M : List CR} (h : SI s R Q n c) (hn : ∀ o ∈ ops, ∃ i, o.name = nameW (logW s.gen) i)
    (hlog : ∃ X, KL (logW s.gen) (run s.files ops).1 X (Q'.map fun l => packL (recF l)) n') (hok : ∀ l ∈ Q', batchE l = 0) (hm : M = puts [] Q'.flatten) (hml : M.length ≤ 1024) :
    SI ⟨(run s.files ops).1, M, s.tabs, s.gen, s.marks⟩ R Q' n' c where
  glob := run_glob h.glob ops
  man := by
    obtain ⟨X, hX⟩ := h.man
    exact ⟨X, hX.same (fun i => run_lk fun o ho e => by
      obtain ⟨j, hj⟩ := hn o ho
      exact log_m _ _ _ (hj.symm.trans e)) (run_glob h.glob ops)⟩
  log := hlog
  rep := h.rep
  marks := h.marks
  le := h.le
  gen := h.gen
  ok := hok
  mem := hm
  memL := hml
  tab := fun t ht => by
    obtain ⟨f, h1, h2⟩ := h.tab t ht
    refine ⟨f, ?_, h2⟩
    rw [← h1]
    refine run_lk fun o ho e => ?_
    obtain ⟨j, hj⟩ := hn o ho
    obtain ⟨i, _, hi⟩ := h.tname t ht
    exact log_t _ _ _ ((hj.symm.trans e).trans hi)
  tname := h.tname
  few := h.few
  names := fun f hf => by
    rcases run_from hf with ⟨f0, h1, h2⟩ | ⟨o, h1, h2⟩
    · have := h.names f0 h1
      rw [h2] at this
      exact this
    · obtain ⟨j, hj⟩ := hn o h1
      exact .inr (.inl ⟨j, h2.symm.trans hj⟩)
/-- What was safe stays so where more is. -/
theorem si_safe {s : St} {R : List ByteArray} {Q : List (List CR)} {n c : Nat} (h : SI s R Q n c) : (safeR s).2.2 = 0 ∧ SI (safeR s).1 R Q Q.length c := by
  obtain ⟨X, hX⟩ := h.log
  obtain ⟨L', X', hr, hk⟩ := kl_sync (logW_prefix s.gen) hX
  have hrun : (run s.files (syncPlan s.files (logW s.gen))).2.2 = 0 := by rw [hr]
  refine ⟨hrun, ?_⟩
  refine si_log h (fun o ho => sync_names ho) ⟨X', ?_⟩ h.ok h.mem h.memL
  rw [hr]
  rw [List.length_map] at hk
  exact hk
theorem puts_mem_log {Q : List (List CR)} (l : List CR) : puts [] (puts [] Q.flatten ++ l) = puts [] (Q ++ [l]).flatten := by
  rw [puts_append, puts_self (puts_rising _ rising_nil), ← puts_append, List.flatten_append]
  congr 2
  simp
theorem si_write {s : St} {R : List ByteArray} {Q : List (List CR)} {n c : Nat} (h : SI s R Q n c) (l : List CR) (hz : (writeR s l).2.2 = 0) : batchE l = 0 ∧ SI (writeR s l).1 R (Q ++ [l]) n c := by
  unfold writeR at hz ⊢
  split at hz
  · rename_i hb
    exact absurd hz hb
  · rename_i hb
    rw [if_neg hb]
    have hb0 : batchE l = 0 := Nat.eq_zero_of_not_pos (fun hp => hb (by omega))
    refine ⟨hb0, ?_⟩
    split at hz
    · rename_i ha
      exact absurd hz ha
    · rename_i ha
      rw [if_neg ha]
      split at hz
      · exact absurd hz (by decide)
      · rename_i h1024
        rw [if_neg h1024]
        obtain ⟨X, hX⟩ := h.log
        have hsz : (bs (packL (recF l))).size ≤ 65536 := by
          rcases Nat.lt_or_ge 65536 (bs (packL (recF l))).size with e | e
          · exfalso
            apply ha
            unfold appendPlan
            rw [if_pos e]
            decide
          · exact e
        rcases (kl_append (logW_prefix s.gen) hX hsz).2 with h4 | ⟨L', X', hr, hk⟩
        · exact absurd hz (by show (run s.files _).2.2 ≠ 0; rw [h4]; decide)
        · refine si_log (Q' := Q ++ [l]) h (fun o ho => append_names ho) ⟨X', ?_⟩ (fun x hx => ?_) ?_ (by omega)
          · rw [hr, List.map_append]
            exact hk
          · rcases List.mem_append.1 hx with hx | hx
            · exact h.ok x hx
            · rw [List.mem_singleton.1 hx]; exact hb0
          · rw [h.mem]
            exact puts_mem_log l
end Go.Proofs.YtlnhbndghnkfmaaGreatDoor
