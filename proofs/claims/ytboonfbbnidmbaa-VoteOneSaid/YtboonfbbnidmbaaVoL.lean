/- The law VoteLearns. -/
import Derived.Test.YtboonfbbnidmbaaVoG
import Derived.Test.YtboonfbbnidmbaaVoI
import Derived.Test.YtboonfbbnidmbaaVoK
namespace Go.Proofs.Ytboonfbbnidmbaa
open Go.RowKit Vo
set_option linter.unusedSimpArgs false
set_option linter.unusedVariables false

section
variable {ops : Array Oper} {o : Oper} {a : Act} {K : Act → World → Prop} {Q : Exit → Act → World → Prop} {E : Prop}
/-- append([]api.Vote{}, l...). -/
theorem step_copy_vv (hw : Region.wanted o (yielded ops a.tmps) = true) (s x : Operand) (ho : o.op = .call { callee := .builtin .append, args := #[s, x], argTypes := #[39, 39] })
    (W0 : World) (hs : a.eval s = .slice (some ⟨W0.heap.size, 0, none⟩) 0 0) (v : Value) (L : List Vt) (hx : a.eval x = v) (hv : VV (W0.alloc (.cells #[] 44)) v L) (hlen : (L.length + 1) * 40 ≤ 140737488355328)
    (h : ∀ A c w', VV w' (.slice A L.length c) L → Gr W0 w' → K (a.put o.dst (.slice A L.length c)) w') :
    if Region.wanted o (yielded ops a.tmps) = true then Oper.wp Try.prog o a (W0.alloc (.cells #[] 44)) K Q else E := by
  obtain ⟨i0, hi, hz0, hz1, hz2⟩ := info_parts infoVt
  rw [if_pos hw]
  refine wp_append_sl _ s x 39 ho W0.heap.size 44 i0 _ 4 40 Try.underlying39 hi hz0 hz1 hz2 rfl (by decide) (.slice (some ⟨W0.heap.size, 0, none⟩) 0 0) 0 [] hs (own_none W0 44 4) v L.length (vtcs L) hx hv
    (vtcs_one L) (by unfold maxLen; omega) (by omega) (by simp) L.length (by omega) ?_
  intro A' c' w' hown' hgr _
  rw [List.nil_append] at hown'
  exact h A' c' w' (own_sl hown') (gr_grown (gr_box W0 _) (own_none W0 44 4) (Nat.le_refl _) hgr)
end
/-- The call owns the slice v from block B on: it reads as these numbers. -/
def NO (w : World) (B : Nat) (v : Value) (K : List Int) : Prop := w.ownsRow B 3 1 v K.length (K.map icell)
theorem NO.nil (w : World) (B : Nat) : NO w B (.slice none 0 0) [] := World.ownsRow_nil w B _ _
theorem NO.gr {w w' : World} {B : Nat} {v : Value} {K : List Int} (h : NO w B v K) (g : Gr w w') : NO w' B v K := own_gr h g
theorem NO.nv {w : World} {B : Nat} {v : Value} {K : List Int} (h : NO w B v K) : NV w v K := own_sl h
/-- One number more, in the walk. -/
theorem wpList_push_nv {W : World} {ops : Array Oper} {rest : List Oper} {o : Oper} {a : Act} {Q : Exit → Act → World → Prop} (hgd : o.guard = none) (s x : Operand) (ho : o.op = .call { callee := .builtin .append, args := #[s, x], argTypes := #[49, 49] })
    (B : Nat) (v : Value) (K : List Int) (hs : a.eval s = v) (hown : NO W B v K) (z : Int) (bn : Nat) (hx : a.eval x = .slice (some ⟨bn, 0, none⟩) 1 1) (hc : W.cell? ⟨bn, 0, none⟩ = some (.int .i64 z)) (hlen : (K.length + 1) * 8 ≤ 140737488355328) (hB : B ≤ W.heap.size) (N : Nat) (hN : K.length + 1 = N)
    (h : ∀ A c w', NO w' B (.slice A N c) (K ++ [z]) → W.grownBy w' v.ownBlock → wpList Try.prog ops Q rest (a.put o.dst (.slice A N c)) w') : wpList Try.prog ops Q (o :: rest) a W := by
  obtain ⟨i0, hi, hz0, hz1, hz2⟩ := info_parts infoI64
  refine wpList_append_sl W hgd s x 49 ho B 3 i0 _ 1 8 Try.underlying49 hi hz0 hz1 hz2 rfl (by decide) v K.length (K.map icell) hs hown (.slice (some ⟨bn, 0, none⟩) 1 1) 1 [icell z] hx
    ⟨_, 1, rfl, Nat.le_refl _, ⟨by decide, fun e => by cases e⟩, rfl, fun j u hj => ⟨bn, 0, rfl, ?_⟩⟩ (fun u hu => by rw [List.mem_singleton] at hu; rw [hu]; rfl) (by unfold maxLen; omega) hlen hB N hN ?_
  · match j, hj with
    | 0, hj => injection hj with hj; rw [← hj]; exact hc
  · intro A' c' w' hown' hgr _
    refine h A' c' w' ?_ hgr
    unfold NO
    rw [List.length_append, List.map_append, List.length_singleton, hN]
    exact hown'
/-- Who gave a vote for this by that ballot. -/
def whoL (b : Nat) (x : ByteArray) (L : List Vt) : List Int := (L.filter (sameFor b x)).map (·.who)
theorem whoL_snoc (b : Nat) (x : ByteArray) (L : List Vt) (v : Vt) : whoL b x (L ++ [v]) = whoL b x L ++ (if sameFor b x v then [v.who] else []) := by
  unfold whoL
  rw [List.filter_append, List.map_append]
  cases h : sameFor b x v <;> simp [h]
theorem whoL_crowd (b : Nat) (x : ByteArray) (L : List Vt) : among (whoL b x L) = crowdP (sameFor b x) L := by
  funext m
  unfold among whoL crowdP
  rw [List.any_map, List.any_filter]
  congr 1
  funext v
  exact Bool.and_comm _ _
theorem whoL_len (b : Nat) (x : ByteArray) (L : List Vt) : (whoL b x L).length ≤ L.length := by
  unfold whoL
  rw [List.length_map]
  exact List.length_filter_le _ _
/-- Where a vote stands that a majority gave. -/
structure Won (S : Nat → Bool) (L : List Vt) (x : ByteArray) (i0 : Nat) : Prop where
  lt : i0 < L.length
  is : ∀ v, L[i0]? = some v → v.val = x ∧ majB S (crowdP (sameFor v.bal x) L) = true
theorem won_of {S : Nat → Bool} {L : List Vt} {x : ByteArray} (h : chosenO S L = some x) : ∃ i0, Won S L x i0 := by
  obtain ⟨v, hv, hw, e⟩ := chosenO_some h
  obtain ⟨i, hi, rfl⟩ := List.mem_iff_getElem.1 hv
  refine ⟨i, hi, fun u hu => ?_⟩
  rw [List.getElem?_eq_getElem hi] at hu
  obtain rfl := Option.some.inj hu
  unfold wins at hw
  rw [e] at hw
  exact ⟨e, hw⟩
/-- What was picked is one's own, or was accepted. -/
theorem pick_from {S : Nat → Bool} {b : Nat} {L : List Vt} {own x : ByteArray} (h : pickO S b L own = some x) : x = own ∨ ∃ j0, j0 < L.length ∧ ∀ v, L[j0]? = some v → v.val = x ∧ v.bal = b ∧ 0 < v.at' := by
  unfold pickO at h
  split at h
  case isFalse => cases h
  have h := Option.some.inj h
  rcases best_of S b L (0, own) with e | ⟨v, hv, hc, hl, e⟩
  · rw [e] at h
    exact .inl h.symm
  · rw [e] at h
    obtain ⟨i, hi, rfl⟩ := List.mem_iff_getElem.1 hv
    refine .inr ⟨i, hi, fun u hu => ?_⟩
    rw [List.getElem?_eq_getElem hi] at hu
    obtain rfl := Option.some.inj hu
    rw [counts_is] at hc
    simp only [Bool.and_eq_true, decide_eq_true_eq] at hc
    exact ⟨h, hc.2, hl⟩
theorem str_ne {x y : ByteArray} (h : x ≠ y) : (x.toList == y.toList) = false := by
  rw [Bool.eq_false_iff]
  exact fun e => h (eqS_iff.1 e)
set_option maxRecDepth 100000 in
set_option maxHeartbeats 4000000 in
theorem voteLearns_any (S : Nat → Bool) (b : Nat) (v : Value) (L : List Vt) (own : ByteArray) (w : World) (hv : VV w v L) (hL : ∀ v ∈ L, FitVt v) (hlen : (L.length + 1) * 40 ≤ 140737488355328) (ho : own.size ≤ 281474976710656) :
    Calls Try.prog 7 #[.agg (setc S), .int .u64 (b : Int), v, .string own] w fun e w' => e = .returned (.bool true) ∧ Gr w w' := by
  obtain ⟨W, hW, hg, hX, _⟩ := box_set S w
  obtain ⟨A, c, rfl, h1, h2, h3⟩ := hv.form
  obtain ⟨n, hn⟩ : ∃ n, n = L.length := ⟨_, rfl⟩
  have HCH : Hid (∀ (v : Value) (w : World), VV w v L → Calls Try.prog 18 #[.agg (setc S), v] w fun e w' => e = .returned (pickV (chosenO S L)) ∧ Gr w w') := Lib.hid (fun v w hv => chosen_any S v L w hv hL (by omega))
  have HPK : Hid (∀ (v : Value) (w : World), VV w v L → Calls Try.prog 15 #[.agg (setc S), .int .u64 (b : Int), v, .string own] w fun e w' => e = .returned (pickV (pickO S b L own)) ∧ Gr w w') := Lib.hid (fun v w hv => pick_any S b v L own w hv hL ho)
  rw [← hn] at h1 hv ⊢
  have HVV := Lib.hid hv
  have HN := Lib.hid hn
  have HV := Lib.hid h3
  have HG := Lib.hid hg
  have HX := Lib.hid hX
  have HLEN := Lib.hid hlen
  clear hX hg hv h3 hn hL hlen ho
  go_enter Try.func7, Try.ntmps7
  go_upto_region 1 with (fail)
  rw [← hW]
  clear hW
  go_wp2_with fail
  refine (awake16_any _).mono ?_
  rintro e w1 ⟨rfl, g1⟩
  have HX1 := Lib.hid (gr_obj' g1 HX.out)
  have HST1 : Hid (SetAt S w w.heap.size w1) := Lib.hid ((setAt_of HX1.out).from (HG.out.trans g1))
  clear g1
  rcases hco : chosenO S L with _ | x0
  · have HCO : Hid (pickV (chosenO S L) = .tuple #[.string ⟨#[]⟩, .bool false]) := Lib.hid (by rw [hco]; rfl)
    clear hco
    go_upto_region 3 with (fail)
    have hst1 : SetAt S w w.heap.size w1.drew := keepS HST1.out (Gr.refl w1).drew
    refine wp_region_held_drew (S := fun w' => SetAt S w w.heap.size w') (by kernel_rfl) hst1 (fun hHeld => ?_)
    refine hTake (i := 0) rfl (by kernel_rfl) (by kernel_rfl) (by kernel_rfl) (by kernel_rfl) (by assumption) ?_
    apply Exists.intro
    refine ⟨fun _ _ _ h => h, fun wq hq => ?_, ?_⟩
    · go_light
      obtain ⟨⟨e0, e1, e2, e3, e4, e5, e6, e7⟩, _⟩ := hq
      go_simp
      try with_reducible rfl
      done
    try simp only [Act.put, List.setIfInBounds_toArray, List.set_cons_zero, List.set_cons_succ, List.getElem_toArray, List.getElem_cons_succ, List.getElem_cons_zero]
    refine hTake (i := 2) rfl (by kernel_rfl) (by kernel_rfl) (by kernel_rfl) (by kernel_rfl) (by assumption) ?_
    apply Exists.intro
    refine ⟨fun _ _ _ h => h, fun wq hq => ?_, ?_⟩
    · go_light
      obtain ⟨⟨e0, e1, e2, e3, e4, e5, e6, e7⟩, _⟩ := hq
      go_simp
      try with_reducible rfl
      done
    try simp only [Act.put, List.setIfInBounds_toArray, List.set_cons_zero, List.set_cons_succ, List.getElem_toArray, List.getElem_cons_succ, List.getElem_cons_zero]
    clear hst1
    generalize w1.drew = wd1 at *
    refine wpAnyH_ready (rs := [1]) (by kernel_rfl) (by simp) ?_
    refine AllReadyH.cons rfl (fun K hK => ?_) AllReadyH.nil
    go_simp
    refine hK.out _ _ (keepS hHeld (gr_box _ _)) (fun _ => ?_)
    clear hK K
    try simp only [Act.put, List.setIfInBounds_toArray, List.set_cons_zero, List.set_cons_succ]
    refine wpAnyH_ready (rs := [3]) (by kernel_rfl) (by simp) ?_
    refine AllReadyH.cons rfl (fun K hK => ?_) AllReadyH.nil
    refine step_copy_vv (by kernel_rfl) (.tmp 23) (.tmp 24) rfl wd1 rfl _ L rfl (HVV.out.gr (hHeld.2.trans (gr_box _ _))) HLEN.out ?_
    intro A1 c1 wc1 hvc gc
    have HVC := Lib.hid hvc
    have hHeld2 := keepS hHeld gc
    clear hvc gc hHeld
    refine hK.out _ _ hHeld2 (fun _ => ?_)
    clear hK K
    try simp only [Act.put, List.setIfInBounds_toArray, List.set_cons_zero, List.set_cons_succ]
    refine wpAnyH_ready (rs := [4]) (by kernel_rfl) (by simp) ?_
    refine AllReadyH.cons rfl (fun K hK => ?_) AllReadyH.nil
    go_simp
    go_at_call 18
    refine (HCH.out _ _ HVC.out).mono ?_
    rintro e w6 ⟨rfl, g6⟩
    rw [HCO.out]
    have hHeld := keepS hHeld2 g6
    clear g6 hHeld2
    go_wp2_with fail
    refine hK.out _ _ hHeld (fun _ => ?_)
    clear hK K HVC
    try simp only [Act.put, List.setIfInBounds_toArray, List.set_cons_zero, List.set_cons_succ]
    refine hTake (i := 5) rfl (by kernel_rfl) (by kernel_rfl) (by kernel_rfl) (by kernel_rfl) (by assumption) ?_
    apply Exists.intro
    refine ⟨fun _ _ _ h => h, fun wq hq => ?_, ?_⟩
    · go_light
      obtain ⟨⟨e0, e1, e2, e3, e4, e5, e6, e7⟩, _⟩ := hq
      go_simp
      try with_reducible rfl
      done
    try simp only [Act.put, List.setIfInBounds_toArray, List.set_cons_zero, List.set_cons_succ, List.getElem_toArray, List.getElem_cons_succ, List.getElem_cons_zero]
    refine hTake (i := 6) rfl (by kernel_rfl) (by kernel_rfl) (by kernel_rfl) (by kernel_rfl) (by assumption) ?_
    apply Exists.intro
    refine ⟨fun _ _ _ h => h, fun wq hq => ?_, ?_⟩
    · go_light
      obtain ⟨⟨e0, e1, e2, e3, e4, e5, e6, e7⟩, _⟩ := hq
      go_simp
      try with_reducible rfl
      done
    try simp only [Act.put, List.setIfInBounds_toArray, List.set_cons_zero, List.set_cons_succ, List.getElem_toArray, List.getElem_cons_succ, List.getElem_cons_zero]
    refine hTake (i := 7) rfl (by kernel_rfl) (by kernel_rfl) (by kernel_rfl) (by kernel_rfl) (by assumption) ?_
    apply Exists.intro
    refine ⟨fun _ _ _ h => h, fun wq hq => ?_, ?_⟩
    · go_light
      obtain ⟨⟨e0, e1, e2, e3, e4, e5, e6, e7⟩, _⟩ := hq
      go_simp
      try with_reducible rfl
      done
    try simp only [Act.put, List.setIfInBounds_toArray, List.set_cons_zero, List.set_cons_succ, List.getElem_toArray, List.getElem_cons_succ, List.getElem_cons_zero]
    refine hTake (i := 8) rfl (by kernel_rfl) (by kernel_rfl) (by kernel_rfl) (by kernel_rfl) (by assumption) ?_
    apply Exists.intro
    refine ⟨fun _ _ _ h => h, fun wq hq => ?_, ?_⟩
    · go_light
      obtain ⟨⟨e0, e1, e2, e3, e4, e5, e6, e7⟩, _⟩ := hq
      go_simp
      try with_reducible rfl
      done
    try simp only [Act.put, List.setIfInBounds_toArray, List.set_cons_zero, List.set_cons_succ, List.getElem_toArray, List.getElem_cons_succ, List.getElem_cons_zero]
    refine hTake (i := 9) rfl (by kernel_rfl) (by kernel_rfl) (by kernel_rfl) (by kernel_rfl) (by assumption) ?_
    apply Exists.intro
    refine ⟨fun _ _ _ h => h, fun wq hq => ?_, ?_⟩
    · go_light
      obtain ⟨⟨e0, e1, e2, e3, e4, e5, e6, e7⟩, _⟩ := hq
      go_simp
      try with_reducible rfl
      done
    try simp only [Act.put, List.setIfInBounds_toArray, List.set_cons_zero, List.set_cons_succ, List.getElem_toArray, List.getElem_cons_succ, List.getElem_cons_zero]
    have HST2 := Lib.hid hHeld
    refine wpAnyH_done (by kernel_rfl) ?_ _
    go_upto_region 18 with (fail)
    rcases hpo : pickO S b L own with _ | x1
    · have HPO : Hid (pickV (pickO S b L own) = .tuple #[.string ⟨#[]⟩, .bool false]) := Lib.hid (by rw [hpo]; rfl)
      clear hpo
      have hst2 : SetAt S w w.heap.size w6.drew := keepS HST2.out (Gr.refl w6).drew
      refine wp_region_held_drew (S := fun w' => SetAt S w w.heap.size w') (by kernel_rfl) hst2 (fun hHeld => ?_)
      refine hTake (i := 0) rfl (by kernel_rfl) (by kernel_rfl) (by kernel_rfl) (by kernel_rfl) (by assumption) ?_
      apply Exists.intro
      refine ⟨fun _ _ _ h => h, fun wq hq => ?_, ?_⟩
      · go_light
        obtain ⟨⟨e0, e1, e2, e3, e4, e5, e6, e7⟩, _⟩ := hq
        go_simp
        try with_reducible rfl
        done
      try simp only [Act.put, List.setIfInBounds_toArray, List.set_cons_zero, List.set_cons_succ, List.getElem_toArray, List.getElem_cons_succ, List.getElem_cons_zero]
      refine hTake (i := 1) rfl (by kernel_rfl) (by kernel_rfl) (by kernel_rfl) (by kernel_rfl) (by assumption) ?_
      apply Exists.intro
      refine ⟨fun _ _ _ h => h, fun wq hq => ?_, ?_⟩
      · go_light
        obtain ⟨⟨e0, e1, e2, e3, e4, e5, e6, e7⟩, _⟩ := hq
        go_simp
        try with_reducible rfl
        done
      try simp only [Act.put, List.setIfInBounds_toArray, List.set_cons_zero, List.set_cons_succ, List.getElem_toArray, List.getElem_cons_succ, List.getElem_cons_zero]
      refine hTake (i := 3) rfl (by kernel_rfl) (by kernel_rfl) (by kernel_rfl) (by kernel_rfl) (by assumption) ?_
      apply Exists.intro
      refine ⟨fun _ _ _ h => h, fun wq hq => ?_, ?_⟩
      · go_light
        obtain ⟨⟨e0, e1, e2, e3, e4, e5, e6, e7⟩, _⟩ := hq
        go_simp
        try with_reducible rfl
        done
      try simp only [Act.put, List.setIfInBounds_toArray, List.set_cons_zero, List.set_cons_succ, List.getElem_toArray, List.getElem_cons_succ, List.getElem_cons_zero]
      refine hTake (i := 5) rfl (by kernel_rfl) (by kernel_rfl) (by kernel_rfl) (by kernel_rfl) (by assumption) ?_
      apply Exists.intro
      refine ⟨fun _ _ _ h => h, fun wq hq => ?_, ?_⟩
      · go_light
        obtain ⟨⟨e0, e1, e2, e3, e4, e5, e6, e7⟩, _⟩ := hq
        go_simp
        try with_reducible rfl
        done
      try simp only [Act.put, List.setIfInBounds_toArray, List.set_cons_zero, List.set_cons_succ, List.getElem_toArray, List.getElem_cons_succ, List.getElem_cons_zero]
      clear hst2
      generalize w6.drew = wd2 at *
      refine wpAnyH_ready (rs := [2]) (by kernel_rfl) (by simp) ?_
      refine AllReadyH.cons rfl (fun K hK => ?_) AllReadyH.nil
      go_simp
      refine hK.out _ _ (keepS hHeld (gr_box _ _)) (fun _ => ?_)
      clear hK K
      try simp only [Act.put, List.setIfInBounds_toArray, List.set_cons_zero, List.set_cons_succ]
      refine wpAnyH_ready (rs := [4]) (by kernel_rfl) (by simp) ?_
      refine AllReadyH.cons rfl (fun K hK => ?_) AllReadyH.nil
      refine step_copy_vv (by kernel_rfl) (.tmp 90) (.tmp 91) rfl wd2 rfl _ L rfl (HVV.out.gr (hHeld.2.trans (gr_box _ _))) HLEN.out ?_
      intro A2 c2 wc2 hvc gc
      have HVC := Lib.hid hvc
      have hHeld2 := keepS hHeld gc
      clear hvc gc hHeld
      refine hK.out _ _ hHeld2 (fun _ => ?_)
      clear hK K
      try simp only [Act.put, List.setIfInBounds_toArray, List.set_cons_zero, List.set_cons_succ]
      refine wpAnyH_ready (rs := [6]) (by kernel_rfl) (by simp) ?_
      refine AllReadyH.cons rfl (fun K hK => ?_) AllReadyH.nil
      go_simp
      go_at_call 15
      refine (HPK.out _ _ HVC.out).mono ?_
      rintro e w9 ⟨rfl, g6⟩
      rw [HPO.out]
      have hHeld := keepS hHeld2 g6
      clear g6 hHeld2
      go_wp2_with fail
      refine hK.out _ _ hHeld (fun _ => ?_)
      clear hK K HVC
      try simp only [Act.put, List.setIfInBounds_toArray, List.set_cons_zero, List.set_cons_succ]
      refine hTake (i := 7) rfl (by kernel_rfl) (by kernel_rfl) (by kernel_rfl) (by kernel_rfl) (by assumption) ?_
      apply Exists.intro
      refine ⟨fun _ _ _ h => h, fun wq hq => ?_, ?_⟩
      · go_light
        obtain ⟨⟨e0, e1, e2, e3, e4, e5, e6, e7⟩, _⟩ := hq
        go_simp
        try with_reducible rfl
        done
      try simp only [Act.put, List.setIfInBounds_toArray, List.set_cons_zero, List.set_cons_succ, List.getElem_toArray, List.getElem_cons_succ, List.getElem_cons_zero]
      refine hTake (i := 8) rfl (by kernel_rfl) (by kernel_rfl) (by kernel_rfl) (by kernel_rfl) (by assumption) ?_
      apply Exists.intro
      refine ⟨fun _ _ _ h => h, fun wq hq => ?_, ?_⟩
      · go_light
        obtain ⟨⟨e0, e1, e2, e3, e4, e5, e6, e7⟩, _⟩ := hq
        go_simp
        try with_reducible rfl
        done
      try simp only [Act.put, List.setIfInBounds_toArray, List.set_cons_zero, List.set_cons_succ, List.getElem_toArray, List.getElem_cons_succ, List.getElem_cons_zero]
      refine hTake (i := 9) rfl (by kernel_rfl) (by kernel_rfl) (by kernel_rfl) (by kernel_rfl) (by assumption) ?_
      apply Exists.intro
      refine ⟨fun _ _ _ h => h, fun wq hq => ?_, ?_⟩
      · go_light
        obtain ⟨⟨e0, e1, e2, e3, e4, e5, e6, e7⟩, _⟩ := hq
        go_simp
        try with_reducible rfl
        done
      try simp only [Act.put, List.setIfInBounds_toArray, List.set_cons_zero, List.set_cons_succ, List.getElem_toArray, List.getElem_cons_succ, List.getElem_cons_zero]
      refine hTake (i := 10) rfl (by kernel_rfl) (by kernel_rfl) (by kernel_rfl) (by kernel_rfl) (by assumption) ?_
      apply Exists.intro
      refine ⟨fun _ _ _ h => h, fun wq hq => ?_, ?_⟩
      · go_light
        obtain ⟨⟨e0, e1, e2, e3, e4, e5, e6, e7⟩, _⟩ := hq
        go_simp
        try with_reducible rfl
        done
      try simp only [Act.put, List.setIfInBounds_toArray, List.set_cons_zero, List.set_cons_succ, List.getElem_toArray, List.getElem_cons_succ, List.getElem_cons_zero]
      refine hTake (i := 11) rfl (by kernel_rfl) (by kernel_rfl) (by kernel_rfl) (by kernel_rfl) (by assumption) ?_
      apply Exists.intro
      refine ⟨fun _ _ _ h => h, fun wq hq => ?_, ?_⟩
      · go_light
        obtain ⟨⟨e0, e1, e2, e3, e4, e5, e6, e7⟩, _⟩ := hq
        go_simp
        try with_reducible rfl
        done
      try simp only [Act.put, List.setIfInBounds_toArray, List.set_cons_zero, List.set_cons_succ, List.getElem_toArray, List.getElem_cons_succ, List.getElem_cons_zero]
      have HG9 := Lib.hid hHeld.2
      refine wpAnyH_done (by kernel_rfl) ?_ _
      go_wp2_with fail
      go_ret
      exact ⟨rfl, HG9.out⟩
    · have HPO : Hid (pickV (pickO S b L own) = .tuple #[.string x1, .bool true]) := Lib.hid (by rw [hpo]; rfl)
      have hpf := pick_from hpo
      have HPF := Lib.hid hpf
      clear hpo hpf
      have hst2 : SetAt S w w.heap.size w6.drew := keepS HST2.out (Gr.refl w6).drew
      refine wp_region_held_drew (S := fun w' => SetAt S w w.heap.size w') (by kernel_rfl) hst2 (fun hHeld => ?_)
      refine hTake (i := 0) rfl (by kernel_rfl) (by kernel_rfl) (by kernel_rfl) (by kernel_rfl) (by assumption) ?_
      apply Exists.intro
      refine ⟨fun _ _ _ h => h, fun wq hq => ?_, ?_⟩
      · go_light
        obtain ⟨⟨e0, e1, e2, e3, e4, e5, e6, e7⟩, _⟩ := hq
        go_simp
        try with_reducible rfl
        done
      try simp only [Act.put, List.setIfInBounds_toArray, List.set_cons_zero, List.set_cons_succ, List.getElem_toArray, List.getElem_cons_succ, List.getElem_cons_zero]
      refine hTake (i := 1) rfl (by kernel_rfl) (by kernel_rfl) (by kernel_rfl) (by kernel_rfl) (by assumption) ?_
      apply Exists.intro
      refine ⟨fun _ _ _ h => h, fun wq hq => ?_, ?_⟩
      · go_light
        obtain ⟨⟨e0, e1, e2, e3, e4, e5, e6, e7⟩, _⟩ := hq
        go_simp
        try with_reducible rfl
        done
      try simp only [Act.put, List.setIfInBounds_toArray, List.set_cons_zero, List.set_cons_succ, List.getElem_toArray, List.getElem_cons_succ, List.getElem_cons_zero]
      refine hTake (i := 3) rfl (by kernel_rfl) (by kernel_rfl) (by kernel_rfl) (by kernel_rfl) (by assumption) ?_
      apply Exists.intro
      refine ⟨fun _ _ _ h => h, fun wq hq => ?_, ?_⟩
      · go_light
        obtain ⟨⟨e0, e1, e2, e3, e4, e5, e6, e7⟩, _⟩ := hq
        go_simp
        try with_reducible rfl
        done
      try simp only [Act.put, List.setIfInBounds_toArray, List.set_cons_zero, List.set_cons_succ, List.getElem_toArray, List.getElem_cons_succ, List.getElem_cons_zero]
      refine hTake (i := 5) rfl (by kernel_rfl) (by kernel_rfl) (by kernel_rfl) (by kernel_rfl) (by assumption) ?_
      apply Exists.intro
      refine ⟨fun _ _ _ h => h, fun wq hq => ?_, ?_⟩
      · go_light
        obtain ⟨⟨e0, e1, e2, e3, e4, e5, e6, e7⟩, _⟩ := hq
        go_simp
        try with_reducible rfl
        done
      try simp only [Act.put, List.setIfInBounds_toArray, List.set_cons_zero, List.set_cons_succ, List.getElem_toArray, List.getElem_cons_succ, List.getElem_cons_zero]
      clear hst2
      generalize w6.drew = wd2 at *
      refine wpAnyH_ready (rs := [2]) (by kernel_rfl) (by simp) ?_
      refine AllReadyH.cons rfl (fun K hK => ?_) AllReadyH.nil
      go_simp
      refine hK.out _ _ (keepS hHeld (gr_box _ _)) (fun _ => ?_)
      clear hK K
      try simp only [Act.put, List.setIfInBounds_toArray, List.set_cons_zero, List.set_cons_succ]
      refine wpAnyH_ready (rs := [4]) (by kernel_rfl) (by simp) ?_
      refine AllReadyH.cons rfl (fun K hK => ?_) AllReadyH.nil
      refine step_copy_vv (by kernel_rfl) (.tmp 90) (.tmp 91) rfl wd2 rfl _ L rfl (HVV.out.gr (hHeld.2.trans (gr_box _ _))) HLEN.out ?_
      intro A2 c2 wc2 hvc gc
      have HVC := Lib.hid hvc
      have hHeld2 := keepS hHeld gc
      clear hvc gc hHeld
      refine hK.out _ _ hHeld2 (fun _ => ?_)
      clear hK K
      try simp only [Act.put, List.setIfInBounds_toArray, List.set_cons_zero, List.set_cons_succ]
      refine wpAnyH_ready (rs := [6]) (by kernel_rfl) (by simp) ?_
      refine AllReadyH.cons rfl (fun K hK => ?_) AllReadyH.nil
      go_simp
      go_at_call 15
      refine (HPK.out _ _ HVC.out).mono ?_
      rintro e w9 ⟨rfl, g6⟩
      rw [HPO.out]
      have hHeld := keepS hHeld2 g6
      clear g6 hHeld2
      go_wp2_with fail
      refine hK.out _ _ hHeld (fun _ => ?_)
      clear hK K HVC
      try simp only [Act.put, List.setIfInBounds_toArray, List.set_cons_zero, List.set_cons_succ]
      refine hTake (i := 7) rfl (by kernel_rfl) (by kernel_rfl) (by kernel_rfl) (by kernel_rfl) (by assumption) ?_
      apply Exists.intro
      refine ⟨fun _ _ _ h => h, fun wq hq => ?_, ?_⟩
      · go_light
        obtain ⟨⟨e0, e1, e2, e3, e4, e5, e6, e7⟩, _⟩ := hq
        go_simp
        try with_reducible rfl
        done
      try simp only [Act.put, List.setIfInBounds_toArray, List.set_cons_zero, List.set_cons_succ, List.getElem_toArray, List.getElem_cons_succ, List.getElem_cons_zero]
      refine hTake (i := 8) rfl (by kernel_rfl) (by kernel_rfl) (by kernel_rfl) (by kernel_rfl) (by assumption) ?_
      apply Exists.intro
      refine ⟨fun _ _ _ h => h, fun wq hq => ?_, ?_⟩
      · go_light
        obtain ⟨⟨e0, e1, e2, e3, e4, e5, e6, e7⟩, _⟩ := hq
        go_simp
        try with_reducible rfl
        done
      try simp only [Act.put, List.setIfInBounds_toArray, List.set_cons_zero, List.set_cons_succ, List.getElem_toArray, List.getElem_cons_succ, List.getElem_cons_zero]
      refine hTake (i := 9) rfl (by kernel_rfl) (by kernel_rfl) (by kernel_rfl) (by kernel_rfl) (by assumption) ?_
      apply Exists.intro
      refine ⟨fun _ _ _ h => h, fun wq hq => ?_, ?_⟩
      · go_light
        obtain ⟨⟨e0, e1, e2, e3, e4, e5, e6, e7⟩, _⟩ := hq
        go_simp
        try with_reducible rfl
        done
      try simp only [Act.put, List.setIfInBounds_toArray, List.set_cons_zero, List.set_cons_succ, List.getElem_toArray, List.getElem_cons_succ, List.getElem_cons_zero]
      refine hTake (i := 10) rfl (by kernel_rfl) (by kernel_rfl) (by kernel_rfl) (by kernel_rfl) (by assumption) ?_
      apply Exists.intro
      refine ⟨fun _ _ _ h => h, fun wq hq => ?_, ?_⟩
      · go_light
        obtain ⟨⟨e0, e1, e2, e3, e4, e5, e6, e7⟩, _⟩ := hq
        go_simp
        try with_reducible rfl
        done
      try simp only [Act.put, List.setIfInBounds_toArray, List.set_cons_zero, List.set_cons_succ, List.getElem_toArray, List.getElem_cons_succ, List.getElem_cons_zero]
      refine hTake (i := 11) rfl (by kernel_rfl) (by kernel_rfl) (by kernel_rfl) (by kernel_rfl) (by assumption) ?_
      apply Exists.intro
      refine ⟨fun _ _ _ h => h, fun wq hq => ?_, ?_⟩
      · go_light
        obtain ⟨⟨e0, e1, e2, e3, e4, e5, e6, e7⟩, _⟩ := hq
        go_simp
        try with_reducible rfl
        done
      try simp only [Act.put, List.setIfInBounds_toArray, List.set_cons_zero, List.set_cons_succ, List.getElem_toArray, List.getElem_cons_succ, List.getElem_cons_zero]
      have HG9 := Lib.hid hHeld.2
      clear hHeld
      refine wpAnyH_done (by kernel_rfl) ?_ _
      obtain ⟨fs, hfs⟩ : ∃ z : Bool, z = (x1.toList == own.toList) := ⟨_, rfl⟩
      have HFS : Hid (x1 = own → fs = true) := Lib.hid (fun e => by rw [hfs, e]; simp)
      go_upto_region 22 with (fail)
      rw [← hfs]
      clear hfs
      go_wp2_with fail
      go_loopw [17, 18] (fun f i wr => ∃ (j : Nat) (fb : Bool), j ≤ n ∧ i = .int .i64 (j : Int) ∧ f = .bool fb ∧ (fs = true → fb = true) ∧ (∀ j0, (∀ v, L[j0]? = some v → v.val = x1 ∧ v.bal = b ∧ 0 < v.at') → j0 < j → fb = true) ∧ Gr w wr) (fun _ i _ => n - (intOf i).toNat)
      case atStart => exact ⟨0, fs, Nat.zero_le _, rfl, rfl, fun h => h, fun _ _ h => absurd h (Nat.not_lt_zero _), HG9.out⟩
      case round =>
        clear HG9
        obtain ⟨j, fb, hj, rfl, rfl, hf1, hf2, hgr⟩ := hrel
        have HF1 := Lib.hid hf1
        have HF2 := Lib.hid hf2
        have HGR := Lib.hid hgr
        clear hf1 hf2 hgr
        by_cases hjlt : j < n
        · have hjL : j < L.length := by rw [← HN.out]; exact hjlt
          obtain ⟨bv, off, rfl, hm⟩ := HV.out j hjL
          obtain ⟨vj, hvj⟩ : ∃ z, z = L[j] := ⟨_, rfl⟩
          have HAT : Hid (L[j]? = some vj) := Lib.hid (by rw [List.getElem?_eq_getElem hjL, hvj])
          rw [← hvj] at hm
          clear hvj hjL
          obtain ⟨wj, yj, zj, xj⟩ := vj
          obtain ⟨q0, q1, q2, q3⟩ := hm.gr HGR.out
          have hj0 : (0 : Int) ≤ (j : Int) := Int.natCast_nonneg _
          clear hm
          go_upto_region 25 with (fail)
          rcases (by cases fb <;> simp : fb = true ∨ fb = false) with rfl | rfl
          · have HNX : Hid (∀ j0, (∀ v, L[j0]? = some v → v.val = x1 ∧ v.bal = b ∧ 0 < v.at') → j0 < j + 1 → true = true) := Lib.hid (fun _ _ _ => rfl)
            have HF1' : Hid (fs = true → true = true) := Lib.hid (fun _ => rfl)
            go_wp2_with fail
            go_roundw
            case measure => simp [intOf]; omega
            case rel => exact ⟨j + 1, true, hjlt, by go_num, rfl, HF1'.out, HNX.out, HGR.out⟩
          · by_cases hx : x1 = xj
            case neg =>
              have t1 := str_ne (fun e => hx e.symm : xj ≠ x1)
              have HNX : Hid (∀ j0, (∀ v, L[j0]? = some v → v.val = x1 ∧ v.bal = b ∧ 0 < v.at') → j0 < j + 1 → false = true) := Lib.hid (fun j0 h1 h2 => by
                by_cases e : j0 = j
                · subst e
                  exact absurd (h1 _ HAT.out).1.symm hx
                · exact HF2.out j0 h1 (by omega))
              have HF1' := HF1
              clear hx
              go_wp2_with fail
              go_roundw
              case measure => simp [intOf]; omega
              case rel => exact ⟨j + 1, false, hjlt, by go_num, rfl, HF1'.out, HNX.out, HGR.out⟩
            case pos =>
              subst hx
              by_cases hy : b = yj
              case neg =>
                have t1 : ((yj : Int) == (b : Int)) = false := by simp; omega
                have HNX : Hid (∀ j0, (∀ v, L[j0]? = some v → v.val = x1 ∧ v.bal = b ∧ 0 < v.at') → j0 < j + 1 → false = true) := Lib.hid (fun j0 h1 h2 => by
                  by_cases e : j0 = j
                  · subst e
                    exact absurd (h1 _ HAT.out).2.1.symm hy
                  · exact HF2.out j0 h1 (by omega))
                have HF1' := HF1
                clear hy
                go_wp2_with fail
                go_roundw
                case measure => simp [intOf]; omega
                case rel => exact ⟨j + 1, false, hjlt, by go_num, rfl, HF1'.out, HNX.out, HGR.out⟩
              case pos =>
                subst hy
                by_cases hz : 0 < zj
                case neg =>
                  have t1 : decide ((0 : Int) < (zj : Int)) = false := decide_eq_false (by omega)
                  have t2 : decide (0 < zj) = false := decide_eq_false hz
                  have HNX : Hid (∀ j0, (∀ v, L[j0]? = some v → v.val = x1 ∧ v.bal = b ∧ 0 < v.at') → j0 < j + 1 → false = true) := Lib.hid (fun j0 h1 h2 => by
                    by_cases e : j0 = j
                    · subst e
                      exact absurd (h1 _ HAT.out).2.2 hz
                    · exact HF2.out j0 h1 (by omega))
                  have HF1' := HF1
                  clear hz
                  go_wp2_with fail
                  go_roundw
                  case measure => simp [intOf]; omega
                  case rel => exact ⟨j + 1, false, hjlt, by go_num, rfl, HF1'.out, HNX.out, HGR.out⟩
                case pos =>
                  have t1 : decide ((0 : Int) < (zj : Int)) = true := decide_eq_true (by omega)
                  have t2 : decide (0 < zj) = true := decide_eq_true hz
                  have HNX : Hid (∀ j0, (∀ v, L[j0]? = some v → v.val = x1 ∧ v.bal = b ∧ 0 < v.at') → j0 < j + 1 → true = true) := Lib.hid (fun _ _ _ => rfl)
                  have HF1' : Hid (fs = true → true = true) := Lib.hid (fun _ => rfl)
                  clear hz
                  go_wp2_with fail
                  go_roundw
                  case measure => simp [intOf]; omega
                  case rel => exact ⟨j + 1, true, hjlt, by go_num, rfl, HF1'.out, HNX.out, HGR.out⟩
        · obtain rfl : j = n := by omega
          obtain rfl : fb = true := by
            rcases HPF.out with e | ⟨j0, h1, h2⟩
            · exact HF1.out (HFS.out e)
            · exact HF2.out j0 h2 (by rw [HN.out]; exact h1)
          go_wp2_with fail
          go_ret
          exact ⟨rfl, HGR.out⟩
  · have HCO : Hid (pickV (chosenO S L) = .tuple #[.string x0, .bool true]) := Lib.hid (by rw [hco]; rfl)
    go_upto_region 3 with (fail)
    have hst1 : SetAt S w w.heap.size w1.drew := keepS HST1.out (Gr.refl w1).drew
    refine wp_region_held_drew (S := fun w' => SetAt S w w.heap.size w') (by kernel_rfl) hst1 (fun hHeld => ?_)
    refine hTake (i := 0) rfl (by kernel_rfl) (by kernel_rfl) (by kernel_rfl) (by kernel_rfl) (by assumption) ?_
    apply Exists.intro
    refine ⟨fun _ _ _ h => h, fun wq hq => ?_, ?_⟩
    · go_light
      obtain ⟨⟨e0, e1, e2, e3, e4, e5, e6, e7⟩, _⟩ := hq
      go_simp
      try with_reducible rfl
      done
    try simp only [Act.put, List.setIfInBounds_toArray, List.set_cons_zero, List.set_cons_succ, List.getElem_toArray, List.getElem_cons_succ, List.getElem_cons_zero]
    refine hTake (i := 2) rfl (by kernel_rfl) (by kernel_rfl) (by kernel_rfl) (by kernel_rfl) (by assumption) ?_
    apply Exists.intro
    refine ⟨fun _ _ _ h => h, fun wq hq => ?_, ?_⟩
    · go_light
      obtain ⟨⟨e0, e1, e2, e3, e4, e5, e6, e7⟩, _⟩ := hq
      go_simp
      try with_reducible rfl
      done
    try simp only [Act.put, List.setIfInBounds_toArray, List.set_cons_zero, List.set_cons_succ, List.getElem_toArray, List.getElem_cons_succ, List.getElem_cons_zero]
    clear hst1
    generalize w1.drew = wd1 at *
    refine wpAnyH_ready (rs := [1]) (by kernel_rfl) (by simp) ?_
    refine AllReadyH.cons rfl (fun K hK => ?_) AllReadyH.nil
    go_simp
    refine hK.out _ _ (keepS hHeld (gr_box _ _)) (fun _ => ?_)
    clear hK K
    try simp only [Act.put, List.setIfInBounds_toArray, List.set_cons_zero, List.set_cons_succ]
    refine wpAnyH_ready (rs := [3]) (by kernel_rfl) (by simp) ?_
    refine AllReadyH.cons rfl (fun K hK => ?_) AllReadyH.nil
    refine step_copy_vv (by kernel_rfl) (.tmp 23) (.tmp 24) rfl wd1 rfl _ L rfl (HVV.out.gr (hHeld.2.trans (gr_box _ _))) HLEN.out ?_
    intro A1 c1 wc1 hvc gc
    have HVC := Lib.hid hvc
    have hHeld2 := keepS hHeld gc
    clear hvc gc hHeld
    refine hK.out _ _ hHeld2 (fun _ => ?_)
    clear hK K
    try simp only [Act.put, List.setIfInBounds_toArray, List.set_cons_zero, List.set_cons_succ]
    refine wpAnyH_ready (rs := [4]) (by kernel_rfl) (by simp) ?_
    refine AllReadyH.cons rfl (fun K hK => ?_) AllReadyH.nil
    go_simp
    go_at_call 18
    refine (HCH.out _ _ HVC.out).mono ?_
    rintro e w6 ⟨rfl, g6⟩
    rw [HCO.out]
    have hHeld := keepS hHeld2 g6
    clear g6 hHeld2
    go_wp2_with fail
    refine hK.out _ _ hHeld (fun _ => ?_)
    clear hK K HVC
    try simp only [Act.put, List.setIfInBounds_toArray, List.set_cons_zero, List.set_cons_succ]
    refine hTake (i := 5) rfl (by kernel_rfl) (by kernel_rfl) (by kernel_rfl) (by kernel_rfl) (by assumption) ?_
    apply Exists.intro
    refine ⟨fun _ _ _ h => h, fun wq hq => ?_, ?_⟩
    · go_light
      obtain ⟨⟨e0, e1, e2, e3, e4, e5, e6, e7⟩, _⟩ := hq
      go_simp
      try with_reducible rfl
      done
    try simp only [Act.put, List.setIfInBounds_toArray, List.set_cons_zero, List.set_cons_succ, List.getElem_toArray, List.getElem_cons_succ, List.getElem_cons_zero]
    refine hTake (i := 6) rfl (by kernel_rfl) (by kernel_rfl) (by kernel_rfl) (by kernel_rfl) (by assumption) ?_
    apply Exists.intro
    refine ⟨fun _ _ _ h => h, fun wq hq => ?_, ?_⟩
    · go_light
      obtain ⟨⟨e0, e1, e2, e3, e4, e5, e6, e7⟩, _⟩ := hq
      go_simp
      try with_reducible rfl
      done
    try simp only [Act.put, List.setIfInBounds_toArray, List.set_cons_zero, List.set_cons_succ, List.getElem_toArray, List.getElem_cons_succ, List.getElem_cons_zero]
    refine hTake (i := 7) rfl (by kernel_rfl) (by kernel_rfl) (by kernel_rfl) (by kernel_rfl) (by assumption) ?_
    apply Exists.intro
    refine ⟨fun _ _ _ h => h, fun wq hq => ?_, ?_⟩
    · go_light
      obtain ⟨⟨e0, e1, e2, e3, e4, e5, e6, e7⟩, _⟩ := hq
      go_simp
      try with_reducible rfl
      done
    try simp only [Act.put, List.setIfInBounds_toArray, List.set_cons_zero, List.set_cons_succ, List.getElem_toArray, List.getElem_cons_succ, List.getElem_cons_zero]
    refine hTake (i := 8) rfl (by kernel_rfl) (by kernel_rfl) (by kernel_rfl) (by kernel_rfl) (by assumption) ?_
    apply Exists.intro
    refine ⟨fun _ _ _ h => h, fun wq hq => ?_, ?_⟩
    · go_light
      obtain ⟨⟨e0, e1, e2, e3, e4, e5, e6, e7⟩, _⟩ := hq
      go_simp
      try with_reducible rfl
      done
    try simp only [Act.put, List.setIfInBounds_toArray, List.set_cons_zero, List.set_cons_succ, List.getElem_toArray, List.getElem_cons_succ, List.getElem_cons_zero]
    refine hTake (i := 9) rfl (by kernel_rfl) (by kernel_rfl) (by kernel_rfl) (by kernel_rfl) (by assumption) ?_
    apply Exists.intro
    refine ⟨fun _ _ _ h => h, fun wq hq => ?_, ?_⟩
    · go_light
      obtain ⟨⟨e0, e1, e2, e3, e4, e5, e6, e7⟩, _⟩ := hq
      go_simp
      try with_reducible rfl
      done
    try simp only [Act.put, List.setIfInBounds_toArray, List.set_cons_zero, List.set_cons_succ, List.getElem_toArray, List.getElem_cons_succ, List.getElem_cons_zero]
    have HST3 := Lib.hid hHeld
    clear hHeld
    refine wpAnyH_done (by kernel_rfl) ?_ _
    obtain ⟨i0, hwon⟩ := won_of hco
    have HWON := Lib.hid hwon
    clear hwon hco
    go_wp2_with fail
    go_loopw [11, 12, 13, 14] (fun f i _ _ wr => ∃ (k : Nat) (fb : Bool), k ≤ n ∧ i = .int .i64 (k : Int) ∧ f = .bool fb ∧ (i0 < k → fb = true) ∧ SetAt S w w.heap.size wr) (fun _ i _ _ _ => n - (intOf i).toNat)
    case atStart => exact ⟨0, false, Nat.zero_le _, rfl, rfl, fun h => absurd h (Nat.not_lt_zero _), HST3.out⟩
    case round =>
      clear HST3
      obtain ⟨k, fb, hk, rfl, rfl, hf, hst⟩ := hrel
      have HFO := Lib.hid hf
      have HSO := Lib.hid hst
      clear hf hst
      obtain ⟨wo, rfl⟩ : ∃ wo : World, wo = wr := ⟨_, rfl⟩
      by_cases hlt : k < n
      · have hkL : k < L.length := by rw [← HN.out]; exact hlt
        obtain ⟨bv, off, rfl, hm⟩ := HV.out k hkL
        obtain ⟨vk, hvk⟩ : ∃ z, z = L[k] := ⟨_, rfl⟩
        have HATK : Hid (L[k]? = some vk) := Lib.hid (by rw [List.getElem?_eq_getElem hkL, hvk])
        rw [← hvk] at hm
        have HMK := Lib.hid (hm.gr HSO.out.2)
        clear hm hvk hkL
        obtain ⟨wk, yk, zk, xk⟩ := vk
        have hk0 : (0 : Int) ≤ (k : Int) := Int.natCast_nonneg _
        go_wp2_with fail
        go_loopw [13, 14] (fun fr i wx => ∃ (j m : Nat) (Af : Option Addr) (cf : Nat), j ≤ n ∧ i = .int .i64 (j : Int) ∧ fr = .slice Af m cf ∧ m ≤ j ∧ Hid (m = (whoL yk x0 (L.take j)).length) ∧ Hid (NO wx wo.heap.size (.slice Af m cf) (whoL yk x0 (L.take j))) ∧ Gr wo wx) (fun _ i _ => n - (intOf i).toNat)
        case atStart => exact ⟨0, 0, none, 0, Nat.zero_le _, rfl, rfl, Nat.le_refl _, Lib.hid rfl, Lib.hid (NO.nil _ _), Gr.refl _⟩
        case round =>
          obtain ⟨j, m, Af, cf, hj, rfl, rfl, hmj, HM, HNO, hgx⟩ := hrel
          have HGX := Lib.hid hgx
          clear hgx
          by_cases hjlt : j < n
          · have hjL : j < L.length := by rw [← HN.out]; exact hjlt
            obtain ⟨bv', off', e', hm⟩ := HV.out j hjL
            injection e' with e'
            injection e' with e1 e2
            subst e1 e2
            obtain ⟨vj, hvj⟩ : ∃ z, z = L[j] := ⟨_, rfl⟩
            have HT : Hid (L.take (j + 1) = L.take j ++ [vj]) := Lib.hid (by rw [take_next L hjL, hvj])
            rw [← hvj] at hm
            clear hvj hjL
            obtain ⟨wj, yj, zj, xj⟩ := vj
            obtain ⟨q0, q1, q2, q3⟩ := (hm.gr HSO.out.2).gr HGX.out
            obtain ⟨p0, p1, p2, p3⟩ := HMK.out.gr HGX.out
            have hj0 : (0 : Int) ≤ (j : Int) := Int.natCast_nonneg _
            clear hm
            go_upto_region 13 with (fail)
            by_cases hy : yj = yk
            case neg =>
              have t1 : ((yj : Int) == (yk : Int)) = false := by simp; omega
              have HNX : Hid (whoL yk x0 (L.take (j + 1)) = whoL yk x0 (L.take j)) := Lib.hid (by
                rw [HT.out, whoL_snoc, show sameFor yk x0 ⟨wj, yj, zj, xj⟩ = false by unfold sameFor; rw [decide_eq_false hy]; rfl]
                simp)
              clear hy
              refine qRegion (fun w' => ((w'.cell? ⟨bv, off + j * 4, none⟩ = some (.int .i64 wj) ∧ w'.cell? ⟨bv, off + j * 4 + 1, none⟩ = some (.int .u64 (yj : Int)) ∧ w'.cell? ⟨bv, off + j * 4 + 2, none⟩ = some (.int .u64 (zj : Int)) ∧ w'.cell? ⟨bv, off + j * 4 + 3, none⟩ = some (.string xj)) ∧ (w'.cell? ⟨bv, off + k * 4, none⟩ = some (.int .i64 wk) ∧ w'.cell? ⟨bv, off + k * 4 + 1, none⟩ = some (.int .u64 (yk : Int)) ∧ w'.cell? ⟨bv, off + k * 4 + 2, none⟩ = some (.int .u64 (zk : Int)) ∧ w'.cell? ⟨bv, off + k * 4 + 3, none⟩ = some (.string xk))) ∧ Gr wr w') (by kernel_rfl) (by kernel_rfl) ⟨⟨⟨(Gr.refl _).drew.cell q0, (Gr.refl _).drew.cell q1, (Gr.refl _).drew.cell q2, (Gr.refl _).drew.cell q3⟩, ⟨(Gr.refl _).drew.cell p0, (Gr.refl _).drew.cell p1, (Gr.refl _).drew.cell p2, (Gr.refl _).drew.cell p3⟩⟩, (Gr.refl _).drew⟩ ?_
              iterate 12
                refine qTake (by kernel_rfl) ?_
                apply Exists.intro
                refine ⟨fun wq hq => ?_, ?_⟩
                · go_light
                  obtain ⟨⟨⟨a0, a1, a2, a3⟩, ⟨b0, b1, b2, b3⟩⟩, _⟩ := hq
                  go_simp
                  try with_reducible rfl
                  done
                try simp only [Act.put, List.setIfInBounds_toArray, List.set_cons_zero, List.set_cons_succ]
              iterate 7
                refine qSkip (by kernel_rfl) ?_
                try simp only [Act.put, List.setIfInBounds_toArray, List.set_cons_zero, List.set_cons_succ]
              iterate 1
                refine qTake (by kernel_rfl) ?_
                apply Exists.intro
                refine ⟨fun wq hq => ?_, ?_⟩
                · go_light
                  obtain ⟨⟨⟨a0, a1, a2, a3⟩, ⟨b0, b1, b2, b3⟩⟩, _⟩ := hq
                  go_simp
                  try with_reducible rfl
                  done
                try simp only [Act.put, List.setIfInBounds_toArray, List.set_cons_zero, List.set_cons_succ]
              refine qNil ?_
              intro w5 hC5
              have HG5 := Lib.hid (HGX.out.trans hC5.2)
              have HNO5 := Lib.hid (HNO.out.gr hC5.2)
              clear hC5 q0 q1 q2 q3 p0 p1 p2 p3
              rw [← HNX.out] at HM HNO5
              go_wp2_with fail
              go_roundw
              case measure => simp [intOf]; omega
              case rel => exact ⟨j + 1, m, Af, cf, hjlt, by go_num, rfl, by omega, HM, HNO5, HG5.out⟩
            case pos =>
              subst hy
              by_cases hx : x0 = xj
              case neg =>
                have t1 := str_ne (fun e => hx e.symm : xj ≠ x0)
                have HNX : Hid (whoL yj x0 (L.take (j + 1)) = whoL yj x0 (L.take j)) := Lib.hid (by
                  rw [HT.out, whoL_snoc, show sameFor yj x0 ⟨wj, yj, zj, xj⟩ = false by unfold sameFor; rw [decide_eq_false (fun e => hx e.symm : ¬ xj = x0), Bool.and_false]]
                  simp)
                clear hx
                refine qRegion (fun w' => ((w'.cell? ⟨bv, off + j * 4, none⟩ = some (.int .i64 wj) ∧ w'.cell? ⟨bv, off + j * 4 + 1, none⟩ = some (.int .u64 (yj : Int)) ∧ w'.cell? ⟨bv, off + j * 4 + 2, none⟩ = some (.int .u64 (zj : Int)) ∧ w'.cell? ⟨bv, off + j * 4 + 3, none⟩ = some (.string xj)) ∧ (w'.cell? ⟨bv, off + k * 4, none⟩ = some (.int .i64 wk) ∧ w'.cell? ⟨bv, off + k * 4 + 1, none⟩ = some (.int .u64 (yj : Int)) ∧ w'.cell? ⟨bv, off + k * 4 + 2, none⟩ = some (.int .u64 (zk : Int)) ∧ w'.cell? ⟨bv, off + k * 4 + 3, none⟩ = some (.string xk))) ∧ Gr wr w') (by kernel_rfl) (by kernel_rfl) ⟨⟨⟨(Gr.refl _).drew.cell q0, (Gr.refl _).drew.cell q1, (Gr.refl _).drew.cell q2, (Gr.refl _).drew.cell q3⟩, ⟨(Gr.refl _).drew.cell p0, (Gr.refl _).drew.cell p1, (Gr.refl _).drew.cell p2, (Gr.refl _).drew.cell p3⟩⟩, (Gr.refl _).drew⟩ ?_
                iterate 20
                  refine qTake (by kernel_rfl) ?_
                  apply Exists.intro
                  refine ⟨fun wq hq => ?_, ?_⟩
                  · go_light
                    obtain ⟨⟨⟨a0, a1, a2, a3⟩, ⟨b0, b1, b2, b3⟩⟩, _⟩ := hq
                    go_simp
                    try with_reducible rfl
                    done
                  try simp only [Act.put, List.setIfInBounds_toArray, List.set_cons_zero, List.set_cons_succ]
                refine qNil ?_
                intro w5 hC5
                have HG5 := Lib.hid (HGX.out.trans hC5.2)
                have HNO5 := Lib.hid (HNO.out.gr hC5.2)
                clear hC5 q0 q1 q2 q3 p0 p1 p2 p3
                rw [← HNX.out] at HM HNO5
                go_wp2_with fail
                go_roundw
                case measure => simp [intOf]; omega
                case rel => exact ⟨j + 1, m, Af, cf, hjlt, by go_num, rfl, by omega, HM, HNO5, HG5.out⟩
              case pos =>
                subst hx
                have HNX : Hid (whoL yj x0 (L.take (j + 1)) = whoL yj x0 (L.take j) ++ [wj]) := Lib.hid (by
                  rw [HT.out, whoL_snoc, show sameFor yj x0 ⟨wj, yj, zj, x0⟩ = true by unfold sameFor; rw [decide_eq_true rfl, decide_eq_true rfl]; rfl]
                  rfl)
                refine qRegion (fun w' => ((w'.cell? ⟨bv, off + j * 4, none⟩ = some (.int .i64 wj) ∧ w'.cell? ⟨bv, off + j * 4 + 1, none⟩ = some (.int .u64 (yj : Int)) ∧ w'.cell? ⟨bv, off + j * 4 + 2, none⟩ = some (.int .u64 (zj : Int)) ∧ w'.cell? ⟨bv, off + j * 4 + 3, none⟩ = some (.string x0)) ∧ (w'.cell? ⟨bv, off + k * 4, none⟩ = some (.int .i64 wk) ∧ w'.cell? ⟨bv, off + k * 4 + 1, none⟩ = some (.int .u64 (yj : Int)) ∧ w'.cell? ⟨bv, off + k * 4 + 2, none⟩ = some (.int .u64 (zk : Int)) ∧ w'.cell? ⟨bv, off + k * 4 + 3, none⟩ = some (.string xk))) ∧ Gr wr w') (by kernel_rfl) (by kernel_rfl) ⟨⟨⟨(Gr.refl _).drew.cell q0, (Gr.refl _).drew.cell q1, (Gr.refl _).drew.cell q2, (Gr.refl _).drew.cell q3⟩, ⟨(Gr.refl _).drew.cell p0, (Gr.refl _).drew.cell p1, (Gr.refl _).drew.cell p2, (Gr.refl _).drew.cell p3⟩⟩, (Gr.refl _).drew⟩ ?_
                iterate 20
                  refine qTake (by kernel_rfl) ?_
                  apply Exists.intro
                  refine ⟨fun wq hq => ?_, ?_⟩
                  · go_light
                    obtain ⟨⟨⟨a0, a1, a2, a3⟩, ⟨b0, b1, b2, b3⟩⟩, _⟩ := hq
                    go_simp
                    try with_reducible rfl
                    done
                  try simp only [Act.put, List.setIfInBounds_toArray, List.set_cons_zero, List.set_cons_succ]
                refine qNil ?_
                intro w5 hC5
                have HG5 := Lib.hid (HGX.out.trans hC5.2)
                have HNO5 := Lib.hid (HNO.out.gr (hC5.2.trans ((Gr.refl w5).alloc (.cells #[.int .i64 wj] 3))))
                have HGA := Lib.hid (HG5.out.trans ((Gr.refl w5).alloc (.cells #[.int .i64 wj] 3)))
                have HCE : Hid ((w5.alloc (.cells #[.int .i64 wj] 3)).cell? ⟨w5.heap.size, 0, none⟩ = some (.int .i64 wj)) := Lib.hid (cell_of_obj (MapKept.heap_alloc w5 _).1 rfl)
                have HLE : Hid (((whoL yj x0 (L.take j)).length + 1) * 8 ≤ 140737488355328) := Lib.hid (by
                  have h1 := whoL_len yj x0 (L.take j)
                  have h2 : (L.take j).length ≤ L.length := by rw [List.length_take]; exact Nat.min_le_right _ _
                  have h3 := HLEN.out
                  omega)
                have q0 : w5.cell? ⟨bv, off + j * 4, none⟩ = some (.int .i64 wj) := hC5.1.1.1
                clear hC5 q1 q2 q3 p0 p1 p2 p3
                go_wp2_with (at_builtin; refine wpList_push_nv rfl (.tmp 62) (.tmp 68) rfl wo.heap.size (.slice Af m cf) (whoL yj x0 (L.take j)) rfl HNO5.out wj w5.heap.size rfl HCE.out HLE.out HGA.out.size (m + 1) (by rw [HM.out]) ?_)
                intro Af2 cf2 w6 hno6 hgr6
                have HNO6 := Lib.hid hno6
                have HG6 := Lib.hid (gr_grown HGA.out HNO5.out (Nat.le_refl _) hgr6)
                have HM6 : Hid (m + 1 = (whoL yj x0 (L.take (j + 1))).length) := Lib.hid (by rw [HNX.out, List.length_append, ← HM.out]; rfl)
                rw [← HNX.out] at HNO6
                clear hno6 hgr6 q0
                go_wp2_with fail
                go_roundw
                case measure => simp [intOf]; omega
                case rel => exact ⟨j + 1, m + 1, Af2, cf2, hjlt, by go_num, rfl, by omega, HM6, HNO6, HG6.out⟩
          · obtain rfl : j = n := by omega
            have HK : Hid (among (whoL yk x0 (L.take j)) = crowdP (sameFor yk x0) L) := Lib.hid (by rw [List.take_of_length_le (by rw [← HN.out]; exact Nat.le_refl _), whoL_crowd])
            have HS6 := Lib.hid (keepS HSO.out HGX.out)
            have HNV : Hid (NV wr (.slice Af m cf) (whoL yk x0 (L.take j))) := Lib.hid HNO.out.nv
            obtain ⟨p0, p1, p2, p3⟩ := HMK.out.gr HGX.out
            clear HNO HM
            obtain ⟨⟨c0, c1, c2, c3, c4, c5, c6, c7⟩, _⟩ := HS6.out
            go_upto_region 15 with (fail)
            rcases (by cases fb <;> simp : fb = true ∨ fb = false) with rfl | rfl
            · go_wp2_with fail
              go_roundw
              case measure => simp [intOf]; omega
              case rel => exact ⟨k + 1, true, hlt, by go_num, rfl, fun _ => rfl, HS6.out⟩
            · by_cases hx : x0 = xk
              case neg =>
                have t1 := str_ne (fun e => hx e.symm : xk ≠ x0)
                have HFF : Hid (i0 < k + 1 → false = true) := Lib.hid (fun h => by
                  by_cases e : i0 = k
                  · subst e
                    exact absurd (HWON.out.is _ HATK.out).1 (fun e => hx e.symm)
                  · exact HFO.out (by omega))
                clear hx
                go_wp2_with fail
                go_roundw
                case measure => simp [intOf]; omega
                case rel => exact ⟨k + 1, false, hlt, by go_num, rfl, HFF.out, HS6.out⟩
              case pos =>
                subst hx
                have HFF : Hid (i0 < k + 1 → majB S (crowdP (sameFor yk x0) L) = true) := Lib.hid (fun h => by
                  by_cases e : i0 = k
                  · subst e
                    exact (HWON.out.is _ HATK.out).2
                  · have := HFO.out (by omega)
                    cases this)
                go_wp2_with fail
                refine (rmajority_any S _ _ _ HNV.out).mono ?_
                rintro e w8 ⟨rfl, g8⟩
                rw [HK.out]
                have HS8 := Lib.hid (keepS HS6.out g8)
                clear g8 c0 c1 c2 c3 c4 c5 c6 c7 p0 p1 p2 p3
                obtain ⟨r, hr⟩ : ∃ r, r = majB S (crowdP (sameFor yk x0) L) := ⟨_, rfl⟩
                rw [← hr] at HFF ⊢
                clear hr
                go_wp2_with fail
                go_roundw
                case measure => simp [intOf]; omega
                case rel => exact ⟨k + 1, r, hlt, by go_num, rfl, HFF.out, HS8.out⟩
      · obtain rfl : k = n := by omega
        obtain rfl : fb = true := HFO.out (by have := HWON.out.lt; rw [HN.out]; exact this)
        have HST2 := Lib.hid HSO.out
        go_upto_region 18 with (fail)
        rcases hpo : pickO S b L own with _ | x1
        · have HPO : Hid (pickV (pickO S b L own) = .tuple #[.string ⟨#[]⟩, .bool false]) := Lib.hid (by rw [hpo]; rfl)
          clear hpo
          have hst2 : SetAt S w w.heap.size wo.drew := keepS HST2.out (Gr.refl wo).drew
          refine wp_region_held_drew (S := fun w' => SetAt S w w.heap.size w') (by kernel_rfl) hst2 (fun hHeld => ?_)
          refine hTake (i := 0) rfl (by kernel_rfl) (by kernel_rfl) (by kernel_rfl) (by kernel_rfl) (by assumption) ?_
          apply Exists.intro
          refine ⟨fun _ _ _ h => h, fun wq hq => ?_, ?_⟩
          · go_light
            obtain ⟨⟨e0, e1, e2, e3, e4, e5, e6, e7⟩, _⟩ := hq
            go_simp
            try with_reducible rfl
            done
          try simp only [Act.put, List.setIfInBounds_toArray, List.set_cons_zero, List.set_cons_succ, List.getElem_toArray, List.getElem_cons_succ, List.getElem_cons_zero]
          refine hTake (i := 1) rfl (by kernel_rfl) (by kernel_rfl) (by kernel_rfl) (by kernel_rfl) (by assumption) ?_
          apply Exists.intro
          refine ⟨fun _ _ _ h => h, fun wq hq => ?_, ?_⟩
          · go_light
            obtain ⟨⟨e0, e1, e2, e3, e4, e5, e6, e7⟩, _⟩ := hq
            go_simp
            try with_reducible rfl
            done
          try simp only [Act.put, List.setIfInBounds_toArray, List.set_cons_zero, List.set_cons_succ, List.getElem_toArray, List.getElem_cons_succ, List.getElem_cons_zero]
          refine hTake (i := 3) rfl (by kernel_rfl) (by kernel_rfl) (by kernel_rfl) (by kernel_rfl) (by assumption) ?_
          apply Exists.intro
          refine ⟨fun _ _ _ h => h, fun wq hq => ?_, ?_⟩
          · go_light
            obtain ⟨⟨e0, e1, e2, e3, e4, e5, e6, e7⟩, _⟩ := hq
            go_simp
            try with_reducible rfl
            done
          try simp only [Act.put, List.setIfInBounds_toArray, List.set_cons_zero, List.set_cons_succ, List.getElem_toArray, List.getElem_cons_succ, List.getElem_cons_zero]
          refine hTake (i := 5) rfl (by kernel_rfl) (by kernel_rfl) (by kernel_rfl) (by kernel_rfl) (by assumption) ?_
          apply Exists.intro
          refine ⟨fun _ _ _ h => h, fun wq hq => ?_, ?_⟩
          · go_light
            obtain ⟨⟨e0, e1, e2, e3, e4, e5, e6, e7⟩, _⟩ := hq
            go_simp
            try with_reducible rfl
            done
          try simp only [Act.put, List.setIfInBounds_toArray, List.set_cons_zero, List.set_cons_succ, List.getElem_toArray, List.getElem_cons_succ, List.getElem_cons_zero]
          clear hst2
          generalize wo.drew = wd2 at *
          refine wpAnyH_ready (rs := [2]) (by kernel_rfl) (by simp) ?_
          refine AllReadyH.cons rfl (fun K hK => ?_) AllReadyH.nil
          go_simp
          refine hK.out _ _ (keepS hHeld (gr_box _ _)) (fun _ => ?_)
          clear hK K
          try simp only [Act.put, List.setIfInBounds_toArray, List.set_cons_zero, List.set_cons_succ]
          refine wpAnyH_ready (rs := [4]) (by kernel_rfl) (by simp) ?_
          refine AllReadyH.cons rfl (fun K hK => ?_) AllReadyH.nil
          refine step_copy_vv (by kernel_rfl) (.tmp 90) (.tmp 91) rfl wd2 rfl _ L rfl (HVV.out.gr (hHeld.2.trans (gr_box _ _))) HLEN.out ?_
          intro A2 c2 wc2 hvc gc
          have HVC := Lib.hid hvc
          have hHeld2 := keepS hHeld gc
          clear hvc gc hHeld
          refine hK.out _ _ hHeld2 (fun _ => ?_)
          clear hK K
          try simp only [Act.put, List.setIfInBounds_toArray, List.set_cons_zero, List.set_cons_succ]
          refine wpAnyH_ready (rs := [6]) (by kernel_rfl) (by simp) ?_
          refine AllReadyH.cons rfl (fun K hK => ?_) AllReadyH.nil
          go_simp
          go_at_call 15
          refine (HPK.out _ _ HVC.out).mono ?_
          rintro e w9 ⟨rfl, g6⟩
          rw [HPO.out]
          have hHeld := keepS hHeld2 g6
          clear g6 hHeld2
          go_wp2_with fail
          refine hK.out _ _ hHeld (fun _ => ?_)
          clear hK K HVC
          try simp only [Act.put, List.setIfInBounds_toArray, List.set_cons_zero, List.set_cons_succ]
          refine hTake (i := 7) rfl (by kernel_rfl) (by kernel_rfl) (by kernel_rfl) (by kernel_rfl) (by assumption) ?_
          apply Exists.intro
          refine ⟨fun _ _ _ h => h, fun wq hq => ?_, ?_⟩
          · go_light
            obtain ⟨⟨e0, e1, e2, e3, e4, e5, e6, e7⟩, _⟩ := hq
            go_simp
            try with_reducible rfl
            done
          try simp only [Act.put, List.setIfInBounds_toArray, List.set_cons_zero, List.set_cons_succ, List.getElem_toArray, List.getElem_cons_succ, List.getElem_cons_zero]
          refine hTake (i := 8) rfl (by kernel_rfl) (by kernel_rfl) (by kernel_rfl) (by kernel_rfl) (by assumption) ?_
          apply Exists.intro
          refine ⟨fun _ _ _ h => h, fun wq hq => ?_, ?_⟩
          · go_light
            obtain ⟨⟨e0, e1, e2, e3, e4, e5, e6, e7⟩, _⟩ := hq
            go_simp
            try with_reducible rfl
            done
          try simp only [Act.put, List.setIfInBounds_toArray, List.set_cons_zero, List.set_cons_succ, List.getElem_toArray, List.getElem_cons_succ, List.getElem_cons_zero]
          refine hTake (i := 9) rfl (by kernel_rfl) (by kernel_rfl) (by kernel_rfl) (by kernel_rfl) (by assumption) ?_
          apply Exists.intro
          refine ⟨fun _ _ _ h => h, fun wq hq => ?_, ?_⟩
          · go_light
            obtain ⟨⟨e0, e1, e2, e3, e4, e5, e6, e7⟩, _⟩ := hq
            go_simp
            try with_reducible rfl
            done
          try simp only [Act.put, List.setIfInBounds_toArray, List.set_cons_zero, List.set_cons_succ, List.getElem_toArray, List.getElem_cons_succ, List.getElem_cons_zero]
          refine hTake (i := 10) rfl (by kernel_rfl) (by kernel_rfl) (by kernel_rfl) (by kernel_rfl) (by assumption) ?_
          apply Exists.intro
          refine ⟨fun _ _ _ h => h, fun wq hq => ?_, ?_⟩
          · go_light
            obtain ⟨⟨e0, e1, e2, e3, e4, e5, e6, e7⟩, _⟩ := hq
            go_simp
            try with_reducible rfl
            done
          try simp only [Act.put, List.setIfInBounds_toArray, List.set_cons_zero, List.set_cons_succ, List.getElem_toArray, List.getElem_cons_succ, List.getElem_cons_zero]
          refine hTake (i := 11) rfl (by kernel_rfl) (by kernel_rfl) (by kernel_rfl) (by kernel_rfl) (by assumption) ?_
          apply Exists.intro
          refine ⟨fun _ _ _ h => h, fun wq hq => ?_, ?_⟩
          · go_light
            obtain ⟨⟨e0, e1, e2, e3, e4, e5, e6, e7⟩, _⟩ := hq
            go_simp
            try with_reducible rfl
            done
          try simp only [Act.put, List.setIfInBounds_toArray, List.set_cons_zero, List.set_cons_succ, List.getElem_toArray, List.getElem_cons_succ, List.getElem_cons_zero]
          have HG9 := Lib.hid hHeld.2
          refine wpAnyH_done (by kernel_rfl) ?_ _
          go_wp2_with fail
          go_ret
          exact ⟨rfl, HG9.out⟩
        · have HPO : Hid (pickV (pickO S b L own) = .tuple #[.string x1, .bool true]) := Lib.hid (by rw [hpo]; rfl)
          have hpf := pick_from hpo
          have HPF := Lib.hid hpf
          clear hpo hpf
          have hst2 : SetAt S w w.heap.size wo.drew := keepS HST2.out (Gr.refl wo).drew
          refine wp_region_held_drew (S := fun w' => SetAt S w w.heap.size w') (by kernel_rfl) hst2 (fun hHeld => ?_)
          refine hTake (i := 0) rfl (by kernel_rfl) (by kernel_rfl) (by kernel_rfl) (by kernel_rfl) (by assumption) ?_
          apply Exists.intro
          refine ⟨fun _ _ _ h => h, fun wq hq => ?_, ?_⟩
          · go_light
            obtain ⟨⟨e0, e1, e2, e3, e4, e5, e6, e7⟩, _⟩ := hq
            go_simp
            try with_reducible rfl
            done
          try simp only [Act.put, List.setIfInBounds_toArray, List.set_cons_zero, List.set_cons_succ, List.getElem_toArray, List.getElem_cons_succ, List.getElem_cons_zero]
          refine hTake (i := 1) rfl (by kernel_rfl) (by kernel_rfl) (by kernel_rfl) (by kernel_rfl) (by assumption) ?_
          apply Exists.intro
          refine ⟨fun _ _ _ h => h, fun wq hq => ?_, ?_⟩
          · go_light
            obtain ⟨⟨e0, e1, e2, e3, e4, e5, e6, e7⟩, _⟩ := hq
            go_simp
            try with_reducible rfl
            done
          try simp only [Act.put, List.setIfInBounds_toArray, List.set_cons_zero, List.set_cons_succ, List.getElem_toArray, List.getElem_cons_succ, List.getElem_cons_zero]
          refine hTake (i := 3) rfl (by kernel_rfl) (by kernel_rfl) (by kernel_rfl) (by kernel_rfl) (by assumption) ?_
          apply Exists.intro
          refine ⟨fun _ _ _ h => h, fun wq hq => ?_, ?_⟩
          · go_light
            obtain ⟨⟨e0, e1, e2, e3, e4, e5, e6, e7⟩, _⟩ := hq
            go_simp
            try with_reducible rfl
            done
          try simp only [Act.put, List.setIfInBounds_toArray, List.set_cons_zero, List.set_cons_succ, List.getElem_toArray, List.getElem_cons_succ, List.getElem_cons_zero]
          refine hTake (i := 5) rfl (by kernel_rfl) (by kernel_rfl) (by kernel_rfl) (by kernel_rfl) (by assumption) ?_
          apply Exists.intro
          refine ⟨fun _ _ _ h => h, fun wq hq => ?_, ?_⟩
          · go_light
            obtain ⟨⟨e0, e1, e2, e3, e4, e5, e6, e7⟩, _⟩ := hq
            go_simp
            try with_reducible rfl
            done
          try simp only [Act.put, List.setIfInBounds_toArray, List.set_cons_zero, List.set_cons_succ, List.getElem_toArray, List.getElem_cons_succ, List.getElem_cons_zero]
          clear hst2
          generalize wo.drew = wd2 at *
          refine wpAnyH_ready (rs := [2]) (by kernel_rfl) (by simp) ?_
          refine AllReadyH.cons rfl (fun K hK => ?_) AllReadyH.nil
          go_simp
          refine hK.out _ _ (keepS hHeld (gr_box _ _)) (fun _ => ?_)
          clear hK K
          try simp only [Act.put, List.setIfInBounds_toArray, List.set_cons_zero, List.set_cons_succ]
          refine wpAnyH_ready (rs := [4]) (by kernel_rfl) (by simp) ?_
          refine AllReadyH.cons rfl (fun K hK => ?_) AllReadyH.nil
          refine step_copy_vv (by kernel_rfl) (.tmp 90) (.tmp 91) rfl wd2 rfl _ L rfl (HVV.out.gr (hHeld.2.trans (gr_box _ _))) HLEN.out ?_
          intro A2 c2 wc2 hvc gc
          have HVC := Lib.hid hvc
          have hHeld2 := keepS hHeld gc
          clear hvc gc hHeld
          refine hK.out _ _ hHeld2 (fun _ => ?_)
          clear hK K
          try simp only [Act.put, List.setIfInBounds_toArray, List.set_cons_zero, List.set_cons_succ]
          refine wpAnyH_ready (rs := [6]) (by kernel_rfl) (by simp) ?_
          refine AllReadyH.cons rfl (fun K hK => ?_) AllReadyH.nil
          go_simp
          go_at_call 15
          refine (HPK.out _ _ HVC.out).mono ?_
          rintro e w9 ⟨rfl, g6⟩
          rw [HPO.out]
          have hHeld := keepS hHeld2 g6
          clear g6 hHeld2
          go_wp2_with fail
          refine hK.out _ _ hHeld (fun _ => ?_)
          clear hK K HVC
          try simp only [Act.put, List.setIfInBounds_toArray, List.set_cons_zero, List.set_cons_succ]
          refine hTake (i := 7) rfl (by kernel_rfl) (by kernel_rfl) (by kernel_rfl) (by kernel_rfl) (by assumption) ?_
          apply Exists.intro
          refine ⟨fun _ _ _ h => h, fun wq hq => ?_, ?_⟩
          · go_light
            obtain ⟨⟨e0, e1, e2, e3, e4, e5, e6, e7⟩, _⟩ := hq
            go_simp
            try with_reducible rfl
            done
          try simp only [Act.put, List.setIfInBounds_toArray, List.set_cons_zero, List.set_cons_succ, List.getElem_toArray, List.getElem_cons_succ, List.getElem_cons_zero]
          refine hTake (i := 8) rfl (by kernel_rfl) (by kernel_rfl) (by kernel_rfl) (by kernel_rfl) (by assumption) ?_
          apply Exists.intro
          refine ⟨fun _ _ _ h => h, fun wq hq => ?_, ?_⟩
          · go_light
            obtain ⟨⟨e0, e1, e2, e3, e4, e5, e6, e7⟩, _⟩ := hq
            go_simp
            try with_reducible rfl
            done
          try simp only [Act.put, List.setIfInBounds_toArray, List.set_cons_zero, List.set_cons_succ, List.getElem_toArray, List.getElem_cons_succ, List.getElem_cons_zero]
          refine hTake (i := 9) rfl (by kernel_rfl) (by kernel_rfl) (by kernel_rfl) (by kernel_rfl) (by assumption) ?_
          apply Exists.intro
          refine ⟨fun _ _ _ h => h, fun wq hq => ?_, ?_⟩
          · go_light
            obtain ⟨⟨e0, e1, e2, e3, e4, e5, e6, e7⟩, _⟩ := hq
            go_simp
            try with_reducible rfl
            done
          try simp only [Act.put, List.setIfInBounds_toArray, List.set_cons_zero, List.set_cons_succ, List.getElem_toArray, List.getElem_cons_succ, List.getElem_cons_zero]
          refine hTake (i := 10) rfl (by kernel_rfl) (by kernel_rfl) (by kernel_rfl) (by kernel_rfl) (by assumption) ?_
          apply Exists.intro
          refine ⟨fun _ _ _ h => h, fun wq hq => ?_, ?_⟩
          · go_light
            obtain ⟨⟨e0, e1, e2, e3, e4, e5, e6, e7⟩, _⟩ := hq
            go_simp
            try with_reducible rfl
            done
          try simp only [Act.put, List.setIfInBounds_toArray, List.set_cons_zero, List.set_cons_succ, List.getElem_toArray, List.getElem_cons_succ, List.getElem_cons_zero]
          refine hTake (i := 11) rfl (by kernel_rfl) (by kernel_rfl) (by kernel_rfl) (by kernel_rfl) (by assumption) ?_
          apply Exists.intro
          refine ⟨fun _ _ _ h => h, fun wq hq => ?_, ?_⟩
          · go_light
            obtain ⟨⟨e0, e1, e2, e3, e4, e5, e6, e7⟩, _⟩ := hq
            go_simp
            try with_reducible rfl
            done
          try simp only [Act.put, List.setIfInBounds_toArray, List.set_cons_zero, List.set_cons_succ, List.getElem_toArray, List.getElem_cons_succ, List.getElem_cons_zero]
          have HG9 := Lib.hid hHeld.2
          clear hHeld
          refine wpAnyH_done (by kernel_rfl) ?_ _
          obtain ⟨fs, hfs⟩ : ∃ z : Bool, z = (x1.toList == own.toList) := ⟨_, rfl⟩
          have HFS : Hid (x1 = own → fs = true) := Lib.hid (fun e => by rw [hfs, e]; simp)
          go_upto_region 22 with (fail)
          rw [← hfs]
          clear hfs
          go_wp2_with fail
          go_loopw [17, 18] (fun f i wr => ∃ (j : Nat) (fb : Bool), j ≤ k ∧ i = .int .i64 (j : Int) ∧ f = .bool fb ∧ (fs = true → fb = true) ∧ (∀ j0, (∀ v, L[j0]? = some v → v.val = x1 ∧ v.bal = b ∧ 0 < v.at') → j0 < j → fb = true) ∧ Gr w wr) (fun _ i _ => k - (intOf i).toNat)
          case atStart => exact ⟨0, fs, Nat.zero_le _, rfl, rfl, fun h => h, fun _ _ h => absurd h (Nat.not_lt_zero _), HG9.out⟩
          case round =>
            clear HG9
            obtain ⟨j, fb, hj, rfl, rfl, hf1, hf2, hgr⟩ := hrel
            have HF1 := Lib.hid hf1
            have HF2 := Lib.hid hf2
            have HGR := Lib.hid hgr
            clear hf1 hf2 hgr
            by_cases hjlt : j < k
            · have hjL : j < L.length := by rw [← HN.out]; exact hjlt
              obtain ⟨bv, off, rfl, hm⟩ := HV.out j hjL
              obtain ⟨vj, hvj⟩ : ∃ z, z = L[j] := ⟨_, rfl⟩
              have HAT : Hid (L[j]? = some vj) := Lib.hid (by rw [List.getElem?_eq_getElem hjL, hvj])
              rw [← hvj] at hm
              clear hvj hjL
              obtain ⟨wj, yj, zj, xj⟩ := vj
              obtain ⟨q0, q1, q2, q3⟩ := hm.gr HGR.out
              have hj0 : (0 : Int) ≤ (j : Int) := Int.natCast_nonneg _
              clear hm
              go_upto_region 25 with (fail)
              rcases (by cases fb <;> simp : fb = true ∨ fb = false) with rfl | rfl
              · have HNX : Hid (∀ j0, (∀ v, L[j0]? = some v → v.val = x1 ∧ v.bal = b ∧ 0 < v.at') → j0 < j + 1 → true = true) := Lib.hid (fun _ _ _ => rfl)
                have HF1' : Hid (fs = true → true = true) := Lib.hid (fun _ => rfl)
                go_wp2_with fail
                go_roundw
                case measure => simp [intOf]; omega
                case rel => exact ⟨j + 1, true, hjlt, by go_num, rfl, HF1'.out, HNX.out, HGR.out⟩
              · by_cases hx : x1 = xj
                case neg =>
                  have t1 := str_ne (fun e => hx e.symm : xj ≠ x1)
                  have HNX : Hid (∀ j0, (∀ v, L[j0]? = some v → v.val = x1 ∧ v.bal = b ∧ 0 < v.at') → j0 < j + 1 → false = true) := Lib.hid (fun j0 h1 h2 => by
                    by_cases e : j0 = j
                    · subst e
                      exact absurd (h1 _ HAT.out).1.symm hx
                    · exact HF2.out j0 h1 (by omega))
                  have HF1' := HF1
                  clear hx
                  go_wp2_with fail
                  go_roundw
                  case measure => simp [intOf]; omega
                  case rel => exact ⟨j + 1, false, hjlt, by go_num, rfl, HF1'.out, HNX.out, HGR.out⟩
                case pos =>
                  subst hx
                  by_cases hy : b = yj
                  case neg =>
                    have t1 : ((yj : Int) == (b : Int)) = false := by simp; omega
                    have HNX : Hid (∀ j0, (∀ v, L[j0]? = some v → v.val = x1 ∧ v.bal = b ∧ 0 < v.at') → j0 < j + 1 → false = true) := Lib.hid (fun j0 h1 h2 => by
                      by_cases e : j0 = j
                      · subst e
                        exact absurd (h1 _ HAT.out).2.1.symm hy
                      · exact HF2.out j0 h1 (by omega))
                    have HF1' := HF1
                    clear hy
                    go_wp2_with fail
                    go_roundw
                    case measure => simp [intOf]; omega
                    case rel => exact ⟨j + 1, false, hjlt, by go_num, rfl, HF1'.out, HNX.out, HGR.out⟩
                  case pos =>
                    subst hy
                    by_cases hz : 0 < zj
                    case neg =>
                      have t1 : decide ((0 : Int) < (zj : Int)) = false := decide_eq_false (by omega)
                      have t2 : decide (0 < zj) = false := decide_eq_false hz
                      have HNX : Hid (∀ j0, (∀ v, L[j0]? = some v → v.val = x1 ∧ v.bal = b ∧ 0 < v.at') → j0 < j + 1 → false = true) := Lib.hid (fun j0 h1 h2 => by
                        by_cases e : j0 = j
                        · subst e
                          exact absurd (h1 _ HAT.out).2.2 hz
                        · exact HF2.out j0 h1 (by omega))
                      have HF1' := HF1
                      clear hz
                      go_wp2_with fail
                      go_roundw
                      case measure => simp [intOf]; omega
                      case rel => exact ⟨j + 1, false, hjlt, by go_num, rfl, HF1'.out, HNX.out, HGR.out⟩
                    case pos =>
                      have t1 : decide ((0 : Int) < (zj : Int)) = true := decide_eq_true (by omega)
                      have t2 : decide (0 < zj) = true := decide_eq_true hz
                      have HNX : Hid (∀ j0, (∀ v, L[j0]? = some v → v.val = x1 ∧ v.bal = b ∧ 0 < v.at') → j0 < j + 1 → true = true) := Lib.hid (fun _ _ _ => rfl)
                      have HF1' : Hid (fs = true → true = true) := Lib.hid (fun _ => rfl)
                      clear hz
                      go_wp2_with fail
                      go_roundw
                      case measure => simp [intOf]; omega
                      case rel => exact ⟨j + 1, true, hjlt, by go_num, rfl, HF1'.out, HNX.out, HGR.out⟩
            · obtain rfl : j = k := by omega
              obtain rfl : fb = true := by
                rcases HPF.out with e | ⟨j0, h1, h2⟩
                · exact HF1.out (HFS.out e)
                · exact HF2.out j0 h2 (by rw [HN.out]; exact h1)
              go_wp2_with fail
              go_ret
              exact ⟨rfl, HGR.out⟩
end Go.Proofs.Ytboonfbbnidmbaa
