/- Mathematics of a store: Flush and Merge keep what holds of it. Walks: the small functions of the laws of stores: kind, few, loose. -/
import Derived.Test.YtlnhbndghnkfmaaGreatDoorZm47
namespace Go.Proofs.YtlnhbndghnkfmaaGreatDoor

theorem mark_back {letter : ByteArray} (hl : letter = tabP ∨ letter = cB) (n : Nat) : markR (markL letter n) = some (letter, nameW tabP n) := by
  have hsz : letter.size = 1 := by rcases hl with rfl | rfl <;> rfl
  have hu : unpackL (markL letter n).data.toList = some [letter.data.toList, (nameW tabP n).data.toList] := unpack_pack (okPack_mark hsz n)
  rw [markR_ok hu, bs_data', bs_data']
  have hn : namedB (nameW tabP n) = true := by
    unfold namedB
    rw [nameOk_seg tabP_ok n, nameW_head tabP n 116 rfl, nameW_size]
    rfl
  rw [hn]
  rcases hl with rfl | rfl
  · rw [eqS_self]
    rfl
  · rw [eqS_self cB]
    simp
/-- What a table's keeping leaves. -/
structure Kept (s : St) (R : List ByteArray) (letter : ByteArray) (P : List PR) (K : List F) : Prop where
  ok : okTab P
  glob : Glob K
  man : ∃ X, KL mP K X ((R ++ [markL letter s.marks]).map dl) (R.length + 1)
  tab : lk K (nameW tabP s.marks) = some ⟨nameW tabP s.marks, bs (tabL P), ⟨#[]⟩⟩
  oth : ∀ nm, nm ≠ nameW tabP s.marks → (∀ i, nm ≠ nameW mP i) → lk K nm = lk s.files nm
  names : ∀ f ∈ K, (∃ f0 ∈ s.files, f0.name = f.name) ∨ f.name = nameW tabP s.marks ∨ ∃ i, f.name = nameW mP i
theorem si_fresh {s : St} {R : List ByteArray} {Q : List (List CR)} {n c : Nat} (h : SI s R Q n c) (hc : c ≤ 600) : lk s.files (nameW tabP s.marks) = none := by
  rw [lk_none]
  intro f hf e
  rcases h.names f hf with ⟨i, hi⟩ | ⟨i, hi⟩ | ht
  · exact m_t _ _ (hi.symm.trans e)
  · exact log_t _ _ _ (hi.symm.trans e)
  · obtain ⟨i, hi, he⟩ := h.tname _ ht
    have hm := h.marks
    have hle := h.le
    have := nameW_inj (by omega) (by omega) (he.symm.trans e)
    omega
theorem si_keep {s : St} {R : List ByteArray} {Q : List (List CR)} {n c : Nat} (h : SI s R Q n c) (hc : c ≤ 600) {letter : ByteArray} (l : List CR) (hz : (keepR s.files s.marks l letter).2 = 0) : Kept s R letter (l.map pairC) (keepR s.files s.marks l letter).1.1 := by
  unfold keepR at hz ⊢
  split at hz
  · rename_i h1
    exact absurd hz h1
  · rename_i h1
    rw [if_neg h1]
    have hok : okTab (l.map pairC) := buildR_zero (Nat.eq_zero_of_not_pos (fun hp => h1 (by omega)))
    split at hz
    · rename_i h2
      exact absurd hz h2
    · rename_i h2
      rw [if_neg h2]
      have hpa : (appendPlan s.files mP (markL letter s.marks)).2 = 0 := Nat.eq_zero_of_not_pos (fun hp => h2 (by omega))
      split at hz
      · rename_i h3
        exact absurd hz h3
      · rename_i h3
        rw [if_neg h3]
        have hrun : (run s.files (keepP s.files s.marks l letter)).2.2 = 0 := Nat.eq_zero_of_not_pos (fun hp => h3 (by omega))
        clear hz h1 h2 h3
        obtain ⟨X, hX⟩ := h.man
        have hms : (markL letter s.marks).size ≤ 65536 := by
          rcases Nat.lt_or_ge 65536 (markL letter s.marks).size with e | e
          · exfalso
            unfold appendPlan at hpa
            rw [if_pos e] at hpa
            exact absurd hpa (by decide)
          · exact e
        have hbs : (buildR (l.map pairC)).1 = bs (tabL (l.map pairC)) := by rw [buildR_ok hok]
        have hbz : (bs (tabL (l.map pairC))).size ≤ 1048576 := by
          rw [bs_size]
          exact hok.2.2.2.2
        -- the table
        obtain ⟨L2, hL2⟩ : ∃ x, x = (run s.files [writeO tabP s.marks (buildR (l.map pairC)).1, syncO tabP s.marks]).1 := ⟨_, rfl⟩
        have hsp := run_split (a := [writeO tabP s.marks (buildR (l.map pairC)).1, syncO tabP s.marks]) (b := (appendPlan s.files mP (markL letter s.marks)).1) hrun
        rw [← hL2] at hsp
        obtain ⟨hr1, hr2, hr3⟩ := hsp
        have htab2 : lk L2 (nameW tabP s.marks) = some ⟨nameW tabP s.marks, bs (tabL (l.map pairC)), ⟨#[]⟩⟩ ∧ ∀ nm, nm ≠ nameW tabP s.marks → lk L2 nm = lk s.files nm := by
          rw [hbs] at hL2 hr1
          rcases step_write_new tabP_ok (si_fresh h hc) hbz with h4 | ⟨L1, hs1, hn1, _⟩
          · exfalso
            rw [run_no (by rw [h4]; decide)] at hr1
            rw [h4] at hr1
            exact absurd (show (4 : Nat) = 0 from hr1) (by decide)
          · obtain ⟨L1', hs2, hn2, _⟩ := step_syncO tabP_ok hn1.here
            rw [run_ok (by rw [hs1]), hs1] at hL2
            have e2 : run L1 [syncO tabP s.marks] = (L1', 1, 0) := run_one hs2
            simp only [bump, e2] at hL2
            subst hL2
            refine ⟨by rw [hn2.here, nil_append], fun nm hne => by rw [hn2.there nm (Ne.symm hne), hn1.there nm (Ne.symm hne)]⟩
        have hg2 : Glob L2 := by rw [hL2]; exact run_glob h.glob _
        have hX2 : KL mP L2 X (R.map dl) R.length := hX.same (fun i => htab2.2 _ (m_t _ _)) hg2
        have hpl := plan_same hX.log hX2.log (markL letter s.marks)
        have hk2 := kl_append mP_ok hX2 hms
        rw [← hpl] at hk2
        rcases hk2.2 with h4 | ⟨L3, X3, hr, hk⟩
        · exact absurd hr2 (by rw [h4]; decide)
        · have hL3 : (run s.files (keepP s.files s.marks l letter)).1 = L3 := by
            have : (run L2 (appendPlan s.files mP (markL letter s.marks)).1).1 = L3 := by rw [hr]
            rw [← this]
            exact hr3
          obtain ⟨L4, X4, hr4, hk4⟩ := kl_sync mP_ok hk
          have hL4 : (run (run s.files (keepP s.files s.marks l letter)).1 (syncPlan (run s.files (keepP s.files s.marks l letter)).1 mP)).1 = L4 := by rw [hL3, hr4]
          have hg3 : Glob L3 := by
            rw [← hL3]
            exact run_glob h.glob _
          have hfar : ∀ nm, (∀ i, nm ≠ nameW mP i) → lk L4 nm = lk L2 nm := fun nm hne => by
            have e1 : lk L4 nm = lk L3 nm := by
              have : L4 = (run L3 (syncPlan L3 mP)).1 := by rw [hr4]
              rw [this]
              refine run_lk fun o ho e => ?_
              obtain ⟨j, hj⟩ := sync_names ho
              exact hne j (e.symm.trans hj)
            have e2 : lk L3 nm = lk L2 nm := by
              have : L3 = (run L2 (appendPlan s.files mP (markL letter s.marks)).1).1 := by rw [hr]
              rw [this]
              refine run_lk fun o ho e => ?_
              obtain ⟨j, hj⟩ := append_names ho
              exact hne j (e.symm.trans hj)
            rw [e1, e2]
          show Kept s R letter (l.map pairC) (run (run s.files (keepP s.files s.marks l letter)).1 (syncPlan (run s.files (keepP s.files s.marks l letter)).1 mP)).1
          rw [hL4]
          refine ⟨hok, ?_, ⟨X4, ?_⟩, ?_, fun nm h1 h2 => ?_, fun f hf => ?_⟩
          · have : L4 = (run L3 (syncPlan L3 mP)).1 := by rw [hr4]
            rw [this]
            exact run_glob hg3 _
          · rw [List.map_append]
            have e : (R.map dl ++ [(markL letter s.marks).data.toList]).length = R.length + 1 := by simp
            rw [e] at hk4
            exact hk4
          · rw [hfar _ (fun i e => m_t i s.marks e.symm)]
            exact htab2.1
          · rw [hfar nm h2]
            exact htab2.2 nm h1
          · have e4 : L4 = (run L3 (syncPlan L3 mP)).1 := by rw [hr4]
            rw [e4] at hf
            rcases run_from hf with ⟨f1, h1, h2⟩ | ⟨o, h1, h2⟩
            · have e3 : L3 = (run s.files (keepP s.files s.marks l letter)).1 := hL3.symm
              rw [e3] at h1
              rcases run_from h1 with ⟨f0, h3, h4⟩ | ⟨o, h3, h4⟩
              · exact .inl ⟨f0, h3, h4.trans h2⟩
              · unfold keepP at h3
                rcases List.mem_append.1 h3 with h5 | h5
                · simp only [List.mem_cons, List.not_mem_nil, or_false] at h5
                  rcases h5 with rfl | rfl
                  · exact .inr (.inl (h2.symm.trans h4.symm))
                  · exact .inr (.inl (h2.symm.trans h4.symm))
                · obtain ⟨j, hj⟩ := append_names h5
                  exact .inr (.inr ⟨j, (h2.symm.trans h4.symm).trans hj⟩)
            · obtain ⟨j, hj⟩ := sync_names h1
              exact .inr (.inr ⟨j, h2.symm.trans hj⟩)
theorem keptF_lk {L : List F} {T : List ByteArray} {g : Nat} {nm : ByteArray} (h : strayS T g nm = false) : lk (keptF L T g) nm = lk L nm := by
  unfold keptF
  exact lk_filter (q := fun nm => !strayS T g nm) (by rw [h]; rfl)
/-- Behind the keeping and the dropping. -/
theorem si_after {s : St} {R : List ByteArray} {Q Q' : List (List CR)} {n n' c g' : Nat} {letter : ByteArray} {P : List PR} {K : List F} {T' : List ByteArray} {M' : List CR} (h : SI s R Q n c) (hc : c ≤ 600) (hK : Kept s R letter P K)
    (hT : ∀ t ∈ T', t = nameW tabP s.marks ∨ t ∈ s.tabs) (hg : g' ≤ R.length + 1) (hrep : replayT (R ++ [markL letter s.marks]) ([], 0) = some (T', g')) (hfew : T'.length ≤ 16)
    (hlog : ∃ X, KL (logW g') (keptF K T' g') X (Q'.map fun l => packL (recF l)) n') (hok : ∀ l ∈ Q', batchE l = 0) (hm : M' = puts [] Q'.flatten) (hml : M'.length ≤ 1024) (hsame : g' = s.gen ∨ s.gen ≠ g') :
    SI ⟨keptF K T' g', M', T', g', s.marks + 1⟩ (R ++ [markL letter s.marks]) Q' n' (c + 1) := by
  have hTn : ∀ t ∈ T', ∃ k, k < R.length + 1 ∧ t = nameW tabP k := fun t ht => by
    rcases hT t ht with h1 | h1
    · exact ⟨s.marks, by rw [h.marks]; exact Nat.lt_succ_self _, h1⟩
    · obtain ⟨i, hi, he⟩ := h.tname t h1
      exact ⟨i, by omega, he⟩
  have hTk : ∀ t ∈ T', ∃ k, t = nameW tabP k := fun t ht => by
    obtain ⟨k, _, he⟩ := hTn t ht
    exact ⟨k, he⟩
  have hg6 : g' < 676 := by have := h.le; omega
  have hs6 : s.gen < 676 := by have := h.le; have := h.gen; omega
  refine ⟨filter_glob hK.glob _, ?_, hlog, hrep, ?_, ?_, ?_, hok, hm, hml, fun t ht => ?_, fun t ht => ?_, hfew, fun f hf => ?_⟩
  · obtain ⟨X, hX⟩ := hK.man
    refine ⟨X, ?_⟩
    rw [List.length_append]
    exact hX.same (fun i => keptF_lk (stray_m _ _ _)) (filter_glob hK.glob _)
  · show s.marks + 1 = _
    rw [List.length_append, h.marks]
    rfl
  · rw [List.length_append]
    have := h.le
    show R.length + 1 ≤ c + 1
    omega
  · rw [List.length_append]
    exact hg
  · show ∃ f, lk (keptF K T' g') t = some f ∧ _
    rw [keptF_lk (stray_tab ht)]
    rcases hT t ht with h1 | h1
    · rw [h1, hK.tab]
      refine ⟨_, rfl, rfl, ?_⟩
      show (allR (bs (tabL P)).data.toList).isSome = true
      have : (bs (tabL P)).data.toList = tabL P := rfl
      rw [this, allR_tab hK.ok]
      rfl
    · by_cases he : t = nameW tabP s.marks
      · rw [he, hK.tab]
        refine ⟨_, rfl, rfl, ?_⟩
        show (allR (bs (tabL P)).data.toList).isSome = true
        have : (bs (tabL P)).data.toList = tabL P := rfl
        rw [this, allR_tab hK.ok]
        rfl
      · obtain ⟨i, _, hi⟩ := h.tname t h1
        rw [hK.oth t he (fun j e => m_t j i (e.symm.trans hi))]
        exact h.tab t h1
  · obtain ⟨k, hk, he⟩ := hTn t ht
    exact ⟨k, by rw [List.length_append]; exact hk, he⟩
  · obtain ⟨hfK, hst⟩ := List.mem_filter.1 hf
    have hst2 : strayS T' g' f.name = false := by simpa using hst
    rcases hK.names f hfK with ⟨f0, h1, h2⟩ | h1 | h1
    · rcases h.names f0 h1 with ⟨i, hi⟩ | ⟨i, hi⟩ | ht
      · exact .inl ⟨i, h2.symm.trans hi⟩
      · rcases hsame with e | e
        · rw [← e] at hi
          exact .inr (.inl ⟨i, h2.symm.trans hi⟩)
        · rw [← h2, hi, stray_oldlog hTk hg6 hs6 e] at hst2
          cases hst2
      · rw [h2] at ht
        by_cases hin : f.name ∈ T'
        · exact .inr (.inr hin)
        · obtain ⟨i, _, hi⟩ := h.tname _ ht
          rw [hi] at hin hst2
          rw [stray_oldtab hin] at hst2
          cases hst2
    · by_cases hin : f.name ∈ T'
      · exact .inr (.inr hin)
      · rw [h1] at hin hst2
        rw [stray_oldtab hin] at hst2
        cases hst2
    · exact .inl h1
/-- Flush, where there is something to flush. -/
theorem si_flush {s : St} {R : List ByteArray} {Q : List (List CR)} {n c : Nat} (h : SI s R Q n c) (hc : c ≤ 600) (hm : s.mem.length ≠ 0) (hz : (flushR s).2.2 = 0) :
    ∃ K, Kept s R tabP (s.mem.map pairC) K ∧ (flushR s).1 = ⟨keptF K (s.tabs ++ [nameW tabP s.marks]) (s.gen + 1), [], s.tabs ++ [nameW tabP s.marks], s.gen + 1, s.marks + 1⟩ ∧ SI (flushR s).1 (R ++ [markL tabP s.marks]) [] 0 (c + 1) := by
  unfold flushR at hz ⊢
  rw [if_neg hm] at hz ⊢
  split at hz
  · exact absurd hz (by decide)
  · rename_i h16
    rw [if_neg h16]
    split at hz
    · rename_i hk
      exact absurd hz hk
    · rename_i hk
      rw [if_neg hk]
      have hK := si_keep (letter := tabP) h hc s.mem (Nat.eq_zero_of_not_pos (fun hp => hk (by omega)))
      refine ⟨_, hK, rfl, ?_⟩
      have hs6 : s.gen < 675 := by have := h.le; have := h.gen; omega
      refine si_after (Q' := []) (n' := 0) h hc hK (fun t ht => ?_) (by have := h.gen; omega) ?_ ?_ ⟨[], ?_⟩ (fun l hl => by cases hl) rfl (Nat.zero_le _) (.inr (by omega))
      · rcases List.mem_append.1 ht with h1 | h1
        · exact .inr h1
        · exact .inl (List.mem_singleton.1 h1)
      · rw [replayT_append, h.rep]
        show replayT [markL tabP s.marks] (s.tabs, s.gen) = _
        unfold replayT
        rw [mark_back (.inl rfl)]
        show replayT [] (markStep (s.tabs, s.gen) (tabP, nameW tabP s.marks)) = _
        unfold markStep
        rw [if_neg (show ¬ tabP = cB by decide)]
        rfl
      · rw [List.length_append]
        show s.tabs.length + 1 ≤ 16
        omega
      · refine kl_empty (filter_glob hK.glob _) (fun i => ?_)
        rw [keptF_lk (stray_log _ _ _), hK.oth _ (log_t _ _ _) (fun j => log_m _ _ _), lk_none]
        intro f hf e
        rcases h.names f hf with ⟨j, hj⟩ | ⟨j, hj⟩ | ht
        · exact log_m _ _ _ (e.symm.trans hj)
        · exact log_log (by omega) (by omega) (by omega) (hj.symm.trans e)
        · obtain ⟨k, _, hk2⟩ := h.tname _ ht
          exact log_t _ _ _ (e.symm.trans hk2)
theorem si_merge {s : St} {R : List ByteArray} {Q : List (List CR)} {n c : Nat} (h : SI s R Q n c) (hc : c ≤ 600) (hm : ¬ s.tabs.length < 2) (hz : (mergeR s).2.2 = 0) :
    ∃ K, Kept s R cB ((heldR s).map pairC) K ∧ (mergeR s).1 = ⟨keptF K [nameW tabP s.marks] s.gen, s.mem, [nameW tabP s.marks], s.gen, s.marks + 1⟩ ∧ SI (mergeR s).1 (R ++ [markL cB s.marks]) Q n (c + 1) := by
  unfold mergeR at hz ⊢
  rw [if_neg hm] at hz ⊢
  split at hz
  · rename_i hk
    exact absurd hz hk
  · rename_i hk
    rw [if_neg hk]
    have hK := si_keep (letter := cB) h hc (heldR s) (Nat.eq_zero_of_not_pos (fun hp => hk (by omega)))
    refine ⟨_, hK, rfl, ?_⟩
    refine si_after (Q' := Q) (n' := n) h hc hK (fun t ht => .inl (List.mem_singleton.1 ht)) (by have := h.gen; omega) ?_ (by simp) ?_ h.ok h.mem h.memL (.inl rfl)
    · rw [replayT_append, h.rep]
      show replayT [markL cB s.marks] (s.tabs, s.gen) = _
      unfold replayT
      rw [mark_back (.inr rfl)]
      show replayT [] (markStep (s.tabs, s.gen) (cB, nameW tabP s.marks)) = _
      unfold markStep
      rw [if_pos rfl]
      rfl
    · obtain ⟨X, hX⟩ := h.log
      refine ⟨X, hX.same (fun i => ?_) (filter_glob hK.glob _)⟩
      rw [keptF_lk (stray_log _ _ _), hK.oth _ (log_t _ _ _) (fun j => log_m _ _ _)]
end Go.Proofs.YtlnhbndghnkfmaaGreatDoor
namespace Go.Proofs.YtlnhbndghnkfmaaGreatDoor
open Go.RowKit

/-- An act's kind. -/
def kindN (n : Int) : Nat := ((n % 18446744073709551616) % 4).toNat
theorem kindN_lt (n : Int) : kindN n < 4 := by unfold kindN; omega
set_option maxRecDepth 100000 in
theorem kind_any (n : Int) (w : World) :
    Calls Tryz.prog 27 #[.int .i64 n] w fun e w' => e = .returned (.int .i64 (kindN n : Int)) ∧ w = w' := by
  obtain ⟨m, hm⟩ : ∃ m, m = n % 18446744073709551616 := ⟨_, rfl⟩
  have h0 : 0 ≤ m := by omega
  have h1 : m < 18446744073709551616 := by omega
  have t1 : IntKind.u64.wrap n = m := by
    rw [hm]
    unfold IntKind.wrap
    simp [IntKind.signed, IntKind.bits]
  have t2 : m.tmod 4 = (kindN n : Int) := by
    unfold kindN
    rw [← hm, Int.tmod_eq_emod_of_nonneg h0]
    omega
  have t3 : IntKind.u64.wrap (kindN n : Int) = (kindN n : Int) := by
    have := kindN_lt n
    unfold IntKind.wrap
    simp [IntKind.signed, IntKind.bits]
    omega
  have t4 : IntKind.i64.wrap (kindN n : Int) = (kindN n : Int) := by
    have := kindN_lt n
    rw [IntKind.wrap_i64]
    omega
  obtain ⟨k, hk⟩ : ∃ k, k = kindN n := ⟨_, rfl⟩
  rw [← hk] at t2 t3 t4 ⊢
  clear hm hk h0 h1
  go_enter Tryz.func27, Tryz.ntmps27
  go_wp2_with fail
  go_ret
  exact ⟨rfl, rfl⟩
/-- Is nothing loose? -/
def looseB (L : List F) : Bool := L.all fun f => f.loose.toList.isEmpty
theorem looseB_iff {L : List F} : looseB L = true ↔ ∀ f ∈ L, f.loose = ⟨#[]⟩ := by
  unfold looseB
  rw [List.all_eq_true]
  constructor
  · intro h f hf
    have := h f hf
    have h2 : f.loose.toList = [] := by simpa using this
    have h3 := size_empty.1 h2
    exact bytes_ext (List.length_eq_zero_iff.1 (by rw [← size_list]; exact h3))
  · intro h f hf
    rw [h f hf, size_empty.2 (rfl : (⟨#[]⟩ : ByteArray).size = 0)]
    rfl
end Go.Proofs.YtlnhbndghnkfmaaGreatDoor
