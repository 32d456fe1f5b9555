/- Copies of slices of numbers and of votes; the law VoteMeet. -/
import Derived.Test.YtboonfbbnidmbaaVoF
namespace Go.Proofs.Ytboonfbbnidmbaa
open Go.RowKit Vo
set_option linter.unusedSimpArgs false

theorem gr_grown {w0 w w' : World} {B size n : Nat} {ty : TypeId} {v : Value} {xs : List Value} (h : Gr w0 w) (ho : w.ownsRow B ty size v n xs) (hB : w0.heap.size ≤ B) (k : w.grownBy w' v.ownBlock) : Gr w0 w' :=
  ⟨(show Kp _ w w' from k).1.trans h.os, (show Kp _ w w' from k).2.trans h.tape, (show Kp _ w w' from k).3.trans h.output, Nat.le_trans h.size (show Kp _ w w' from k).size, fun x hx =>
    ((show Kp v.ownBlock w w' from k).5 x (Nat.lt_of_lt_of_le hx h.size) (fun e => by have := ho.lt x e.symm; omega)).trans (h.block x hx)⟩
section
variable {ops : Array Oper} {o : Oper} {a : Act} {K : Act → World → Prop} {Q : Exit → Act → World → Prop} {E : Prop}
/-- append([]int{}, l...). -/
theorem step_copy_nv (hw : Region.wanted o (yielded ops a.tmps) = true) (s x : Operand) (ho : o.op = .call { callee := .builtin .append, args := #[s, x], argTypes := #[49, 49] })
    (W0 : World) (hs : a.eval s = .slice (some ⟨W0.heap.size, 0, none⟩) 0 0) (v : Value) (L : List Int) (hx : a.eval x = v) (hv : NV (W0.alloc (.cells #[] 3)) v L) (hlen : (L.length + 1) * 8 ≤ 140737488355328)
    (h : ∀ A c w', NV w' (.slice A L.length c) L → Gr W0 w' → K (a.put o.dst (.slice A L.length c)) w') :
    if Region.wanted o (yielded ops a.tmps) = true then Oper.wp Try.prog o a (W0.alloc (.cells #[] 3)) K Q else E := by
  obtain ⟨i0, hi, hz0, hz1, hz2⟩ := info_parts infoI64
  rw [if_pos hw]
  refine wp_append_sl _ s x 49 ho W0.heap.size 3 i0 _ 1 8 Try.underlying49 hi hz0 hz1 hz2 rfl (by decide) (.slice (some ⟨W0.heap.size, 0, none⟩) 0 0) 0 [] hs (own_none W0 3 1) v L.length (L.map icell) hx hv
    (fun u hu => by obtain ⟨z, _, rfl⟩ := List.mem_map.1 hu; rfl) (by unfold maxLen; omega) (by omega) (by simp) L.length (by omega) ?_
  intro A' c' w' hown' hgr _
  rw [List.nil_append] at hown'
  exact h A' c' w' (own_sl hown') (gr_grown (gr_box W0 _) (own_none W0 3 1) (Nat.le_refl _) hgr)
end
/-- The cells of the set lie in block b, and nothing has changed since w. -/
abbrev SetAt (S : Nat → Bool) (w : World) (b : Nat) (w' : World) : Prop := (w'.cell? ⟨b, 0, none⟩ = some (.bool (S 0)) ∧ w'.cell? ⟨b, 1, none⟩ = some (.bool (S 1)) ∧ w'.cell? ⟨b, 2, none⟩ = some (.bool (S 2)) ∧ w'.cell? ⟨b, 3, none⟩ = some (.bool (S 3)) ∧ w'.cell? ⟨b, 4, none⟩ = some (.bool (S 4)) ∧ w'.cell? ⟨b, 5, none⟩ = some (.bool (S 5)) ∧ w'.cell? ⟨b, 6, none⟩ = some (.bool (S 6)) ∧ w'.cell? ⟨b, 7, none⟩ = some (.bool (S 7))) ∧ Gr w w'
theorem keepS {S : Nat → Bool} {w w1 w2 : World} {b : Nat} (h : SetAt S w b w1) (g : Gr w1 w2) : SetAt S w b w2 :=
  ⟨⟨g.cell h.1.1, g.cell h.1.2.1, g.cell h.1.2.2.1, g.cell h.1.2.2.2.1, g.cell h.1.2.2.2.2.1, g.cell h.1.2.2.2.2.2.1, g.cell h.1.2.2.2.2.2.2.1, g.cell h.1.2.2.2.2.2.2.2⟩, h.2.trans g⟩
theorem setAt_of {S : Nat → Bool} {w : World} {b : Nat} {fr : Nat × Nat} {t : TypeId} (h : w.heap[b]? = some (.cells (setc S) t fr)) : SetAt S w b w :=
  ⟨⟨cell_of_obj h rfl, cell_of_obj h rfl, cell_of_obj h rfl, cell_of_obj h rfl, cell_of_obj h rfl, cell_of_obj h rfl, cell_of_obj h rfl, cell_of_obj h rfl⟩, Gr.refl w⟩
theorem SetAt.from {S : Nat → Bool} {w0 w w' : World} {b : Nat} (h : SetAt S w b w') (g : Gr w0 w) : SetAt S w0 b w' := ⟨h.1, g.trans h.2⟩
/-- An operation whose guard is not met is passed over. -/
theorem vskipH {P : Program} {md : Region.Mode} {ops : Array Oper} {Q : Exit → Act → World → Prop} {S : World → Prop} {i : Nat} {oi : Oper} {fuel : Nat} {listed : Array Bool} {a : Act} {w : World} (hi : ops[i]? = some oi)
    (hs : Region.noSelect ops = true) (hf : Region.free md ops listed i = true) (hr : (Region.ready md ops listed).contains i = true)
    (hw : Region.wanted oi (yielded ops a.tmps) = false) (hS : S w)
    (h : (∀ c a w, Q (.panic c) (a.put oi.dst undef) w → Q (.panic c) a w) ∧ wpAnyH P md ops Q S fuel (listed.setIfInBounds i true) (a.put oi.dst undef) w) : wpAnyH P md ops Q S (fuel + 1) listed a w :=
  wpAnyH_take hi hs hf hr h.1 (Or.inr ⟨hw, rfl⟩) hS h.2
/-- How the numbers of two ballots stand to each other. -/
theorem meet_cases (r ot : Nat) (m n : Int) {E1 E2 : Int} {N1 N2 : Nat} (h1 : E1 = balE r m) (h2 : E2 = balE ot n) (h3 : N1 = balN r m) (h4 : N2 = balN ot n) :
    E1 = 1 ∨ (E1 = 0 ∧ E2 = 1) ∨ (E1 = 0 ∧ E2 = 0 ∧ ((N1 = N2 ∧ r = ot ∧ m = n) ∨ (N1 ≠ N2 ∧ r = ot ∧ m ≠ n) ∨ (N1 ≠ N2 ∧ ot < r) ∨ (N1 < N2 ∧ r < ot))) := by
  subst h1 h2 h3 h4
  rcases bal_cases r m with ⟨k, rfl, hk, a1, a2, e1, e2⟩ | ⟨_, _, e2⟩
  · rcases bal_cases ot n with ⟨j, rfl, hj, b1, b2, d1, d2⟩ | ⟨_, _, d2⟩
    · refine .inr (.inr ⟨e2, d2, ?_⟩)
      rw [e1, d1]
      omega
    · exact .inr (.inl ⟨e2, d2⟩)
  · exact .inl e2
theorem set_cell {S : Nat → Bool} {w w' : World} {b : Nat} (h : SetAt S w b w') {k : Nat} (hk : k < 8) : w'.cell? ⟨b, k, none⟩ = some (.bool (S k)) := by
  obtain ⟨⟨h0, h1, h2, h3, h4, h5, h6, h7⟩, _⟩ := h
  rcases (by omega : k = 0 ∨ k = 1 ∨ k = 2 ∨ k = 3 ∨ k = 4 ∨ k = 5 ∨ k = 6 ∨ k = 7) with rfl | rfl | rfl | rfl | rfl | rfl | rfl | rfl <;> assumption
/-- Where a number of the set stands in both lists. -/
structure Found (S : Nat → Bool) (Ka Kb : List Int) (i0 k0 : Nat) : Prop where
  ha : i0 < Ka.length
  hb : k0 < Kb.length
  eq : Ka[i0]? = Kb[k0]?
  ins : ∀ z, Ka[i0]? = some z → inSet S z = true
theorem found_of {S : Nat → Bool} {Ka Kb : List Int} (ha : majB S (among Ka) = true) (hb : majB S (among Kb) = true) : ∃ i0 k0, Found S Ka Kb i0 k0 := by
  obtain ⟨m, m1, m2, m3, m4⟩ := majB_meet ha hb
  unfold among at m3 m4
  rw [List.any_eq_true] at m3 m4
  obtain ⟨x, x1, x2⟩ := m3
  obtain ⟨y, y1, y2⟩ := m4
  have x2 := of_decide_eq_true x2
  have y2 := of_decide_eq_true y2
  obtain ⟨i, hi, rfl⟩ := List.mem_iff_getElem.1 x1
  obtain ⟨k, hk, rfl⟩ := List.mem_iff_getElem.1 y1
  refine ⟨i, k, hi, hk, by rw [List.getElem?_eq_getElem hi, List.getElem?_eq_getElem hk, x2, y2], fun z hz => ?_⟩
  rw [List.getElem?_eq_getElem hi] at hz
  rw [← Option.some.inj hz, x2, inSet_nat S m1, m2]
theorem found_next {S : Nat → Bool} {Ka Kb : List Int} {i0 k0 k j : Nat} {b b' : Bool} {z1 z2 : Int} (F : Found S Ka Kb i0 k0) (hb : i0 = k → k0 < j → b = true) (h1 : Ka[k]? = some z1) (h2 : Kb[j]? = some z2) (hm : z1 = z2 → inSet S z1 = true → b' = true) (hbb : b = true → b' = true) : i0 = k → k0 < j + 1 → b' = true := by
  intro e hlt
  subst e
  by_cases q : k0 < j
  · exact hbb (hb rfl q)
  · have e : k0 = j := by omega
    subst e
    refine hm ?_ (F.ins z1 h1)
    have := F.eq
    rw [h1, h2] at this
    exact Option.some.inj this
set_option maxRecDepth 100000 in
set_option maxHeartbeats 4000000 in
theorem voteMeet_any (S : Nat → Bool) (va vb : Value) (Ka Kb : List Int) (r ot : Nat) (m n : Int) (w : World) (ha : NV w va Ka) (hb : NV w vb Kb) (hfa : (Ka.length + 1) * 8 ≤ 140737488355328) (hfb : (Kb.length + 1) * 8 ≤ 140737488355328) :
    Calls Try.prog 6 #[.agg (setc S), va, vb, .int .u64 (r : Int), .int .u64 (ot : Int), .int .i64 m, .int .i64 n] w fun e w' => e = .returned (.bool true) ∧ Gr w w' := by
  obtain ⟨W, hW, hg, hX, _⟩ := box_set S w
  obtain ⟨Aa, ca, rfl, ga1, ga2, ga3⟩ := ha.form
  obtain ⟨Ab, cb, rfl, gb1, gb2, gb3⟩ := hb.form
  obtain ⟨na, hna⟩ : ∃ n, n = Ka.length := ⟨_, rfl⟩
  obtain ⟨nb, hnb⟩ : ∃ n, n = Kb.length := ⟨_, rfl⟩
  rw [← hna] at ha ga1 ⊢
  rw [← hnb] at hb gb1 ⊢
  have HVA := Lib.hid ha
  have HVB := Lib.hid hb
  have HNA := Lib.hid hna
  have HNB := Lib.hid hnb
  have HFA := Lib.hid hfa
  have HFB := Lib.hid hfb
  have HA3 := Lib.hid ga3
  have HB3 := Lib.hid gb3
  have HG := Lib.hid hg
  have HX := Lib.hid hX
  obtain ⟨mA, hmA⟩ : ∃ b, b = majB S (among Ka) := ⟨_, rfl⟩
  obtain ⟨mB, hmB⟩ : ∃ b, b = majB S (among Kb) := ⟨_, rfl⟩
  have HMA := Lib.hid hmA.symm
  have HMB := Lib.hid hmB.symm
  obtain ⟨E1, hE1⟩ : ∃ z, z = balE r m := ⟨_, rfl⟩
  obtain ⟨E2, hE2⟩ : ∃ z, z = balE ot n := ⟨_, rfl⟩
  obtain ⟨N1, hN1⟩ : ∃ z, z = balN r m := ⟨_, rfl⟩
  obtain ⟨N2, hN2⟩ : ∃ z, z = balN ot n := ⟨_, rfl⟩
  have H1 := Lib.hid (fun w => ballot_any r m w)
  have H2 := Lib.hid (fun w => ballot_any ot n w)
  rw [← hE1, ← hN1] at H1
  rw [← hE2, ← hN2] at H2
  have HFIN := Lib.hid (meet_cases r ot m n hE1 hE2 hN1 hN2)
  clear hna hnb hfa hfb ga3 gb3 hg hX ha hb hmA hmB hE1 hE2 hN1 hN2
  go_enter Try.func6, Try.ntmps6
  go_upto_region 1 with (fail)
  rw [← hW]
  clear hW
  go_wp2_with fail
  refine (awake16_any _).mono ?_
  rintro e w1 ⟨rfl, g1⟩
  have HX1 := Lib.hid (gr_obj' g1 HX.out)
  have HG1 := Lib.hid (HG.out.trans g1)
  clear g1
  rcases (by cases mA <;> simp : mA = false ∨ mA = true) with hmA | hmA
  · rw [hmA] at HMA
    go_upto_region 3 with (fail)
    have hg1 : Gr w w1.drew := HG1.out.trans (Gr.refl w1).drew
    have hst : SetAt S w w.heap.size w1.drew := (setAt_of (gr_obj' (Gr.refl w1).drew HX1.out)).from hg1
    refine wp_region_held_drew (S := fun w' => SetAt S w w.heap.size w') (by kernel_rfl) hst (fun hHeld => ?_)
    refine hTake (i := 0) rfl (by kernel_rfl) (by kernel_rfl) (by kernel_rfl) (by kernel_rfl) (by assumption) ?_
    apply Exists.intro
    refine ⟨fun _ _ _ h => h, fun wq hq => ?_, ?_⟩
    · go_light
      obtain ⟨⟨e0, e1, e2, e3, e4, e5, e6, e7⟩, _⟩ := hq
      go_simp
      try with_reducible rfl
      done
    try simp only [Act.put, List.setIfInBounds_toArray, List.set_cons_zero, List.set_cons_succ, List.getElem_toArray, List.getElem_cons_succ, List.getElem_cons_zero]
    refine hTake (i := 2) rfl (by kernel_rfl) (by kernel_rfl) (by kernel_rfl) (by kernel_rfl) (by assumption) ?_
    apply Exists.intro
    refine ⟨fun _ _ _ h => h, fun wq hq => ?_, ?_⟩
    · go_light
      obtain ⟨⟨e0, e1, e2, e3, e4, e5, e6, e7⟩, _⟩ := hq
      go_simp
      try with_reducible rfl
      done
    try simp only [Act.put, List.setIfInBounds_toArray, List.set_cons_zero, List.set_cons_succ, List.getElem_toArray, List.getElem_cons_succ, List.getElem_cons_zero]
    clear hst hg1
    generalize w1.drew = w3 at *
    refine wpAnyH_ready (rs := [1]) (by kernel_rfl) (by simp) ?_
    refine AllReadyH.cons rfl (fun K hK => ?_) AllReadyH.nil
    go_simp
    refine hK.out _ _ (keepS hHeld (gr_box _ _)) (fun _ => ?_)
    clear hK K
    try simp only [Act.put, List.setIfInBounds_toArray, List.set_cons_zero, List.set_cons_succ]
    refine wpAnyH_ready (rs := [3]) (by kernel_rfl) (by simp) ?_
    refine AllReadyH.cons rfl (fun K hK => ?_) AllReadyH.nil
    refine step_copy_nv (by kernel_rfl) (.tmp 25) (.tmp 26) rfl w3 rfl _ Ka rfl (HVA.out.gr (hHeld.2.trans (gr_box _ _))) HFA.out ?_
    intro A5 c5 w5 hv5 g5
    have HV5 := Lib.hid hv5
    have hHeld5 := keepS hHeld g5
    clear hv5 g5 hHeld
    refine hK.out _ _ hHeld5 (fun _ => ?_)
    clear hK K
    try simp only [Act.put, List.setIfInBounds_toArray, List.set_cons_zero, List.set_cons_succ]
    refine wpAnyH_ready (rs := [4]) (by kernel_rfl) (by simp) ?_
    refine AllReadyH.cons rfl (fun K hK => ?_) AllReadyH.nil
    go_simp
    go_at_call 17
    refine (majority_any S _ Ka _ HV5.out).mono ?_
    rintro e w6 ⟨rfl, g6⟩
    rw [HMA.out]
    have hHeld := keepS hHeld5 g6
    clear g6 hHeld5
    go_wp2_with fail
    refine hK.out _ _ hHeld (fun _ => ?_)
    clear hK K HV5
    try simp only [Act.put, List.setIfInBounds_toArray, List.set_cons_zero, List.set_cons_succ]
    refine hTake (i := 5) rfl (by kernel_rfl) (by kernel_rfl) (by kernel_rfl) (by kernel_rfl) (by assumption) ?_
    apply Exists.intro
    refine ⟨fun _ _ _ h => h, fun wq hq => ?_, ?_⟩
    · go_light
      obtain ⟨⟨e0, e1, e2, e3, e4, e5, e6, e7⟩, _⟩ := hq
      go_simp
      try with_reducible rfl
      done
    try simp only [Act.put, List.setIfInBounds_toArray, List.set_cons_zero, List.set_cons_succ, List.getElem_toArray, List.getElem_cons_succ, List.getElem_cons_zero]
    refine vskipH (i := 6) rfl (by kernel_rfl) (by kernel_rfl) (by kernel_rfl) (by kernel_rfl) (by assumption) ⟨fun _ _ _ h => h, ?_⟩
    try simp only [Act.put, List.setIfInBounds_toArray, List.set_cons_zero, List.set_cons_succ, List.getElem_toArray, List.getElem_cons_succ, List.getElem_cons_zero]
    refine vskipH (i := 7) rfl (by kernel_rfl) (by kernel_rfl) (by kernel_rfl) (by kernel_rfl) (by assumption) ⟨fun _ _ _ h => h, ?_⟩
    try simp only [Act.put, List.setIfInBounds_toArray, List.set_cons_zero, List.set_cons_succ, List.getElem_toArray, List.getElem_cons_succ, List.getElem_cons_zero]
    refine vskipH (i := 8) rfl (by kernel_rfl) (by kernel_rfl) (by kernel_rfl) (by kernel_rfl) (by assumption) ⟨fun _ _ _ h => h, ?_⟩
    try simp only [Act.put, List.setIfInBounds_toArray, List.set_cons_zero, List.set_cons_succ, List.getElem_toArray, List.getElem_cons_succ, List.getElem_cons_zero]
    refine vskipH (i := 9) rfl (by kernel_rfl) (by kernel_rfl) (by kernel_rfl) (by kernel_rfl) (by assumption) ⟨fun _ _ _ h => h, ?_⟩
    try simp only [Act.put, List.setIfInBounds_toArray, List.set_cons_zero, List.set_cons_succ, List.getElem_toArray, List.getElem_cons_succ, List.getElem_cons_zero]
    refine vskipH (i := 10) rfl (by kernel_rfl) (by kernel_rfl) (by kernel_rfl) (by kernel_rfl) (by assumption) ⟨fun _ _ _ h => h, ?_⟩
    try simp only [Act.put, List.setIfInBounds_toArray, List.set_cons_zero, List.set_cons_succ, List.getElem_toArray, List.getElem_cons_succ, List.getElem_cons_zero]
    refine hTake (i := 11) rfl (by kernel_rfl) (by kernel_rfl) (by kernel_rfl) (by kernel_rfl) (by assumption) ?_
    apply Exists.intro
    refine ⟨fun _ _ _ h => h, fun wq hq => ?_, ?_⟩
    · go_light
      obtain ⟨⟨e0, e1, e2, e3, e4, e5, e6, e7⟩, _⟩ := hq
      go_simp
      try with_reducible rfl
      done
    try simp only [Act.put, List.setIfInBounds_toArray, List.set_cons_zero, List.set_cons_succ, List.getElem_toArray, List.getElem_cons_succ, List.getElem_cons_zero]
    have HGE := Lib.hid hHeld.2
    refine wpAnyH_done (by kernel_rfl) ?_ _
    go_upto_region 14 with (fail)
    go_wp2_with fail
    refine (H1.out _).mono ?_
    rintro e w9 ⟨rfl, g9⟩
    have HG9 := Lib.hid (HGE.out.trans g9)
    clear g9
    go_wp2_with fail
    refine (H2.out _).mono ?_
    rintro e w10 ⟨rfl, g10⟩
    have HG10 := Lib.hid (HG9.out.trans g10)
    clear g10
    rcases HFIN.out with e1 | ⟨e1, e2⟩ | ⟨e1, e2, h⟩
    · subst e1
      clear HFIN H1 H2
      go_wp2_with fail
      go_ret
      exact ⟨rfl, HG10.out⟩
    · subst e1 e2
      clear HFIN H1 H2
      go_wp2_with fail
      go_ret
      exact ⟨rfl, HG10.out⟩
    · subst e1 e2
      clear HFIN H1 H2
      rcases h with ⟨h1, h2, h3⟩ | ⟨h1, h2, h3⟩ | ⟨h1, h2⟩ | ⟨h1, h2⟩
      · subst h1 h2 h3
        go_wp2_with fail
        go_ret
        exact ⟨rfl, HG10.out⟩
      · subst h2
        have t1 : ((N1 : Int) == (N2 : Int)) = false := by simp; omega
        have t2 : (m == n) = false := by simpa using h3
        clear h1 h3
        go_wp2_with fail
        go_ret
        exact ⟨rfl, HG10.out⟩
      · have t1 : ((N1 : Int) == (N2 : Int)) = false := by simp; omega
        have t2 : ((r : Int) == (ot : Int)) = false := by simp; omega
        have t3 : decide (ot ≤ r) = true := decide_eq_true (by omega)
        clear h1 h2
        go_wp2_with fail
        go_ret
        exact ⟨rfl, HG10.out⟩
      · have t1 : ((N1 : Int) == (N2 : Int)) = false := by simp; omega
        have t2 : ((r : Int) == (ot : Int)) = false := by simp; omega
        have t3 : decide (ot ≤ r) = false := decide_eq_false (by omega)
        have t4 : decide (N1 < N2) = true := decide_eq_true h1
        clear h1 h2
        go_wp2_with fail
        go_ret
        exact ⟨rfl, HG10.out⟩
  · rw [hmA] at HMA
    rcases (by cases mB <;> simp : mB = false ∨ mB = true) with hmB | hmB
    · rw [hmB] at HMB
      go_upto_region 3 with (fail)
      have hg1 : Gr w w1.drew := HG1.out.trans (Gr.refl w1).drew
      have hst : SetAt S w w.heap.size w1.drew := (setAt_of (gr_obj' (Gr.refl w1).drew HX1.out)).from hg1
      refine wp_region_held_drew (S := fun w' => SetAt S w w.heap.size w') (by kernel_rfl) hst (fun hHeld => ?_)
      refine hTake (i := 0) rfl (by kernel_rfl) (by kernel_rfl) (by kernel_rfl) (by kernel_rfl) (by assumption) ?_
      apply Exists.intro
      refine ⟨fun _ _ _ h => h, fun wq hq => ?_, ?_⟩
      · go_light
        obtain ⟨⟨e0, e1, e2, e3, e4, e5, e6, e7⟩, _⟩ := hq
        go_simp
        try with_reducible rfl
        done
      try simp only [Act.put, List.setIfInBounds_toArray, List.set_cons_zero, List.set_cons_succ, List.getElem_toArray, List.getElem_cons_succ, List.getElem_cons_zero]
      refine hTake (i := 2) rfl (by kernel_rfl) (by kernel_rfl) (by kernel_rfl) (by kernel_rfl) (by assumption) ?_
      apply Exists.intro
      refine ⟨fun _ _ _ h => h, fun wq hq => ?_, ?_⟩
      · go_light
        obtain ⟨⟨e0, e1, e2, e3, e4, e5, e6, e7⟩, _⟩ := hq
        go_simp
        try with_reducible rfl
        done
      try simp only [Act.put, List.setIfInBounds_toArray, List.set_cons_zero, List.set_cons_succ, List.getElem_toArray, List.getElem_cons_succ, List.getElem_cons_zero]
      clear hst hg1
      generalize w1.drew = w3 at *
      refine wpAnyH_ready (rs := [1]) (by kernel_rfl) (by simp) ?_
      refine AllReadyH.cons rfl (fun K hK => ?_) AllReadyH.nil
      go_simp
      refine hK.out _ _ (keepS hHeld (gr_box _ _)) (fun _ => ?_)
      clear hK K
      try simp only [Act.put, List.setIfInBounds_toArray, List.set_cons_zero, List.set_cons_succ]
      refine wpAnyH_ready (rs := [3]) (by kernel_rfl) (by simp) ?_
      refine AllReadyH.cons rfl (fun K hK => ?_) AllReadyH.nil
      refine step_copy_nv (by kernel_rfl) (.tmp 25) (.tmp 26) rfl w3 rfl _ Ka rfl (HVA.out.gr (hHeld.2.trans (gr_box _ _))) HFA.out ?_
      intro A5 c5 w5 hv5 g5
      have HV5 := Lib.hid hv5
      have hHeld5 := keepS hHeld g5
      clear hv5 g5 hHeld
      refine hK.out _ _ hHeld5 (fun _ => ?_)
      clear hK K
      try simp only [Act.put, List.setIfInBounds_toArray, List.set_cons_zero, List.set_cons_succ]
      refine wpAnyH_ready (rs := [4]) (by kernel_rfl) (by simp) ?_
      refine AllReadyH.cons rfl (fun K hK => ?_) AllReadyH.nil
      go_simp
      go_at_call 17
      refine (majority_any S _ Ka _ HV5.out).mono ?_
      rintro e w6 ⟨rfl, g6⟩
      rw [HMA.out]
      have hHeld := keepS hHeld5 g6
      clear g6 hHeld5
      go_wp2_with fail
      refine hK.out _ _ hHeld (fun _ => ?_)
      clear hK K HV5
      try simp only [Act.put, List.setIfInBounds_toArray, List.set_cons_zero, List.set_cons_succ]
      refine hTake (i := 5) rfl (by kernel_rfl) (by kernel_rfl) (by kernel_rfl) (by kernel_rfl) (by assumption) ?_
      apply Exists.intro
      refine ⟨fun _ _ _ h => h, fun wq hq => ?_, ?_⟩
      · go_light
        obtain ⟨⟨e0, e1, e2, e3, e4, e5, e6, e7⟩, _⟩ := hq
        go_simp
        try with_reducible rfl
        done
      try simp only [Act.put, List.setIfInBounds_toArray, List.set_cons_zero, List.set_cons_succ, List.getElem_toArray, List.getElem_cons_succ, List.getElem_cons_zero]
      refine hTake (i := 6) rfl (by kernel_rfl) (by kernel_rfl) (by kernel_rfl) (by kernel_rfl) (by assumption) ?_
      apply Exists.intro
      refine ⟨fun _ _ _ h => h, fun wq hq => ?_, ?_⟩
      · go_light
        obtain ⟨⟨e0, e1, e2, e3, e4, e5, e6, e7⟩, _⟩ := hq
        go_simp
        try with_reducible rfl
        done
      try simp only [Act.put, List.setIfInBounds_toArray, List.set_cons_zero, List.set_cons_succ, List.getElem_toArray, List.getElem_cons_succ, List.getElem_cons_zero]
      refine hTake (i := 8) rfl (by kernel_rfl) (by kernel_rfl) (by kernel_rfl) (by kernel_rfl) (by assumption) ?_
      apply Exists.intro
      refine ⟨fun _ _ _ h => h, fun wq hq => ?_, ?_⟩
      · go_light
        obtain ⟨⟨e0, e1, e2, e3, e4, e5, e6, e7⟩, _⟩ := hq
        go_simp
        try with_reducible rfl
        done
      try simp only [Act.put, List.setIfInBounds_toArray, List.set_cons_zero, List.set_cons_succ, List.getElem_toArray, List.getElem_cons_succ, List.getElem_cons_zero]
      refine wpAnyH_ready (rs := [7]) (by kernel_rfl) (by simp) ?_
      refine AllReadyH.cons rfl (fun K hK => ?_) AllReadyH.nil
      go_simp
      refine hK.out _ _ (keepS hHeld (gr_box _ _)) (fun _ => ?_)
      clear hK K
      try simp only [Act.put, List.setIfInBounds_toArray, List.set_cons_zero, List.set_cons_succ]
      refine wpAnyH_ready (rs := [9]) (by kernel_rfl) (by simp) ?_
      refine AllReadyH.cons rfl (fun K hK => ?_) AllReadyH.nil
      refine step_copy_nv (by kernel_rfl) (.tmp 31) (.tmp 32) rfl w6 rfl _ Kb rfl (HVB.out.gr (hHeld.2.trans (gr_box _ _))) HFB.out ?_
      intro A7 c7 w7 hv7 g7
      have HV7 := Lib.hid hv7
      have hHeld7 := keepS hHeld g7
      clear hv7 g7 hHeld
      refine hK.out _ _ hHeld7 (fun _ => ?_)
      clear hK K
      try simp only [Act.put, List.setIfInBounds_toArray, List.set_cons_zero, List.set_cons_succ]
      refine wpAnyH_ready (rs := [10]) (by kernel_rfl) (by simp) ?_
      refine AllReadyH.cons rfl (fun K hK => ?_) AllReadyH.nil
      go_simp
      go_at_call 17
      refine (majority_any S _ Kb _ HV7.out).mono ?_
      rintro e w8 ⟨rfl, g6⟩
      rw [HMB.out]
      have hHeld := keepS hHeld7 g6
      clear g6 hHeld7
      go_wp2_with fail
      refine hK.out _ _ hHeld (fun _ => ?_)
      clear hK K HV7
      try simp only [Act.put, List.setIfInBounds_toArray, List.set_cons_zero, List.set_cons_succ]
      refine hTake (i := 11) rfl (by kernel_rfl) (by kernel_rfl) (by kernel_rfl) (by kernel_rfl) (by assumption) ?_
      apply Exists.intro
      refine ⟨fun _ _ _ h => h, fun wq hq => ?_, ?_⟩
      · go_light
        obtain ⟨⟨e0, e1, e2, e3, e4, e5, e6, e7⟩, _⟩ := hq
        go_simp
        try with_reducible rfl
        done
      try simp only [Act.put, List.setIfInBounds_toArray, List.set_cons_zero, List.set_cons_succ, List.getElem_toArray, List.getElem_cons_succ, List.getElem_cons_zero]
      have HGE := Lib.hid hHeld.2
      refine wpAnyH_done (by kernel_rfl) ?_ _
      go_upto_region 14 with (fail)
      go_wp2_with fail
      refine (H1.out _).mono ?_
      rintro e w9 ⟨rfl, g9⟩
      have HG9 := Lib.hid (HGE.out.trans g9)
      clear g9
      go_wp2_with fail
      refine (H2.out _).mono ?_
      rintro e w10 ⟨rfl, g10⟩
      have HG10 := Lib.hid (HG9.out.trans g10)
      clear g10
      rcases HFIN.out with e1 | ⟨e1, e2⟩ | ⟨e1, e2, h⟩
      · subst e1
        clear HFIN H1 H2
        go_wp2_with fail
        go_ret
        exact ⟨rfl, HG10.out⟩
      · subst e1 e2
        clear HFIN H1 H2
        go_wp2_with fail
        go_ret
        exact ⟨rfl, HG10.out⟩
      · subst e1 e2
        clear HFIN H1 H2
        rcases h with ⟨h1, h2, h3⟩ | ⟨h1, h2, h3⟩ | ⟨h1, h2⟩ | ⟨h1, h2⟩
        · subst h1 h2 h3
          go_wp2_with fail
          go_ret
          exact ⟨rfl, HG10.out⟩
        · subst h2
          have t1 : ((N1 : Int) == (N2 : Int)) = false := by simp; omega
          have t2 : (m == n) = false := by simpa using h3
          clear h1 h3
          go_wp2_with fail
          go_ret
          exact ⟨rfl, HG10.out⟩
        · have t1 : ((N1 : Int) == (N2 : Int)) = false := by simp; omega
          have t2 : ((r : Int) == (ot : Int)) = false := by simp; omega
          have t3 : decide (ot ≤ r) = true := decide_eq_true (by omega)
          clear h1 h2
          go_wp2_with fail
          go_ret
          exact ⟨rfl, HG10.out⟩
        · have t1 : ((N1 : Int) == (N2 : Int)) = false := by simp; omega
          have t2 : ((r : Int) == (ot : Int)) = false := by simp; omega
          have t3 : decide (ot ≤ r) = false := decide_eq_false (by omega)
          have t4 : decide (N1 < N2) = true := decide_eq_true h1
          clear h1 h2
          go_wp2_with fail
          go_ret
          exact ⟨rfl, HG10.out⟩
    · rw [hmB] at HMB
      go_upto_region 3 with (fail)
      have hg1 : Gr w w1.drew := HG1.out.trans (Gr.refl w1).drew
      have hst : SetAt S w w.heap.size w1.drew := (setAt_of (gr_obj' (Gr.refl w1).drew HX1.out)).from hg1
      refine wp_region_held_drew (S := fun w' => SetAt S w w.heap.size w') (by kernel_rfl) hst (fun hHeld => ?_)
      refine hTake (i := 0) rfl (by kernel_rfl) (by kernel_rfl) (by kernel_rfl) (by kernel_rfl) (by assumption) ?_
      apply Exists.intro
      refine ⟨fun _ _ _ h => h, fun wq hq => ?_, ?_⟩
      · go_light
        obtain ⟨⟨e0, e1, e2, e3, e4, e5, e6, e7⟩, _⟩ := hq
        go_simp
        try with_reducible rfl
        done
      try simp only [Act.put, List.setIfInBounds_toArray, List.set_cons_zero, List.set_cons_succ, List.getElem_toArray, List.getElem_cons_succ, List.getElem_cons_zero]
      refine hTake (i := 2) rfl (by kernel_rfl) (by kernel_rfl) (by kernel_rfl) (by kernel_rfl) (by assumption) ?_
      apply Exists.intro
      refine ⟨fun _ _ _ h => h, fun wq hq => ?_, ?_⟩
      · go_light
        obtain ⟨⟨e0, e1, e2, e3, e4, e5, e6, e7⟩, _⟩ := hq
        go_simp
        try with_reducible rfl
        done
      try simp only [Act.put, List.setIfInBounds_toArray, List.set_cons_zero, List.set_cons_succ, List.getElem_toArray, List.getElem_cons_succ, List.getElem_cons_zero]
      clear hst hg1
      generalize w1.drew = w3 at *
      refine wpAnyH_ready (rs := [1]) (by kernel_rfl) (by simp) ?_
      refine AllReadyH.cons rfl (fun K hK => ?_) AllReadyH.nil
      go_simp
      refine hK.out _ _ (keepS hHeld (gr_box _ _)) (fun _ => ?_)
      clear hK K
      try simp only [Act.put, List.setIfInBounds_toArray, List.set_cons_zero, List.set_cons_succ]
      refine wpAnyH_ready (rs := [3]) (by kernel_rfl) (by simp) ?_
      refine AllReadyH.cons rfl (fun K hK => ?_) AllReadyH.nil
      refine step_copy_nv (by kernel_rfl) (.tmp 25) (.tmp 26) rfl w3 rfl _ Ka rfl (HVA.out.gr (hHeld.2.trans (gr_box _ _))) HFA.out ?_
      intro A5 c5 w5 hv5 g5
      have HV5 := Lib.hid hv5
      have hHeld5 := keepS hHeld g5
      clear hv5 g5 hHeld
      refine hK.out _ _ hHeld5 (fun _ => ?_)
      clear hK K
      try simp only [Act.put, List.setIfInBounds_toArray, List.set_cons_zero, List.set_cons_succ]
      refine wpAnyH_ready (rs := [4]) (by kernel_rfl) (by simp) ?_
      refine AllReadyH.cons rfl (fun K hK => ?_) AllReadyH.nil
      go_simp
      go_at_call 17
      refine (majority_any S _ Ka _ HV5.out).mono ?_
      rintro e w6 ⟨rfl, g6⟩
      rw [HMA.out]
      have hHeld := keepS hHeld5 g6
      clear g6 hHeld5
      go_wp2_with fail
      refine hK.out _ _ hHeld (fun _ => ?_)
      clear hK K HV5
      try simp only [Act.put, List.setIfInBounds_toArray, List.set_cons_zero, List.set_cons_succ]
      refine hTake (i := 5) rfl (by kernel_rfl) (by kernel_rfl) (by kernel_rfl) (by kernel_rfl) (by assumption) ?_
      apply Exists.intro
      refine ⟨fun _ _ _ h => h, fun wq hq => ?_, ?_⟩
      · go_light
        obtain ⟨⟨e0, e1, e2, e3, e4, e5, e6, e7⟩, _⟩ := hq
        go_simp
        try with_reducible rfl
        done
      try simp only [Act.put, List.setIfInBounds_toArray, List.set_cons_zero, List.set_cons_succ, List.getElem_toArray, List.getElem_cons_succ, List.getElem_cons_zero]
      refine hTake (i := 6) rfl (by kernel_rfl) (by kernel_rfl) (by kernel_rfl) (by kernel_rfl) (by assumption) ?_
      apply Exists.intro
      refine ⟨fun _ _ _ h => h, fun wq hq => ?_, ?_⟩
      · go_light
        obtain ⟨⟨e0, e1, e2, e3, e4, e5, e6, e7⟩, _⟩ := hq
        go_simp
        try with_reducible rfl
        done
      try simp only [Act.put, List.setIfInBounds_toArray, List.set_cons_zero, List.set_cons_succ, List.getElem_toArray, List.getElem_cons_succ, List.getElem_cons_zero]
      refine hTake (i := 8) rfl (by kernel_rfl) (by kernel_rfl) (by kernel_rfl) (by kernel_rfl) (by assumption) ?_
      apply Exists.intro
      refine ⟨fun _ _ _ h => h, fun wq hq => ?_, ?_⟩
      · go_light
        obtain ⟨⟨e0, e1, e2, e3, e4, e5, e6, e7⟩, _⟩ := hq
        go_simp
        try with_reducible rfl
        done
      try simp only [Act.put, List.setIfInBounds_toArray, List.set_cons_zero, List.set_cons_succ, List.getElem_toArray, List.getElem_cons_succ, List.getElem_cons_zero]
      refine wpAnyH_ready (rs := [7]) (by kernel_rfl) (by simp) ?_
      refine AllReadyH.cons rfl (fun K hK => ?_) AllReadyH.nil
      go_simp
      refine hK.out _ _ (keepS hHeld (gr_box _ _)) (fun _ => ?_)
      clear hK K
      try simp only [Act.put, List.setIfInBounds_toArray, List.set_cons_zero, List.set_cons_succ]
      refine wpAnyH_ready (rs := [9]) (by kernel_rfl) (by simp) ?_
      refine AllReadyH.cons rfl (fun K hK => ?_) AllReadyH.nil
      refine step_copy_nv (by kernel_rfl) (.tmp 31) (.tmp 32) rfl w6 rfl _ Kb rfl (HVB.out.gr (hHeld.2.trans (gr_box _ _))) HFB.out ?_
      intro A7 c7 w7 hv7 g7
      have HV7 := Lib.hid hv7
      have hHeld7 := keepS hHeld g7
      clear hv7 g7 hHeld
      refine hK.out _ _ hHeld7 (fun _ => ?_)
      clear hK K
      try simp only [Act.put, List.setIfInBounds_toArray, List.set_cons_zero, List.set_cons_succ]
      refine wpAnyH_ready (rs := [10]) (by kernel_rfl) (by simp) ?_
      refine AllReadyH.cons rfl (fun K hK => ?_) AllReadyH.nil
      go_simp
      go_at_call 17
      refine (majority_any S _ Kb _ HV7.out).mono ?_
      rintro e w8 ⟨rfl, g6⟩
      rw [HMB.out]
      have hHeld := keepS hHeld7 g6
      clear g6 hHeld7
      go_wp2_with fail
      refine hK.out _ _ hHeld (fun _ => ?_)
      clear hK K HV7
      try simp only [Act.put, List.setIfInBounds_toArray, List.set_cons_zero, List.set_cons_succ]
      refine hTake (i := 11) rfl (by kernel_rfl) (by kernel_rfl) (by kernel_rfl) (by kernel_rfl) (by assumption) ?_
      apply Exists.intro
      refine ⟨fun _ _ _ h => h, fun wq hq => ?_, ?_⟩
      · go_light
        obtain ⟨⟨e0, e1, e2, e3, e4, e5, e6, e7⟩, _⟩ := hq
        go_simp
        try with_reducible rfl
        done
      try simp only [Act.put, List.setIfInBounds_toArray, List.set_cons_zero, List.set_cons_succ, List.getElem_toArray, List.getElem_cons_succ, List.getElem_cons_zero]
      have HSE := Lib.hid hHeld
      have HS0 := Lib.hid hHeld
      clear hHeld
      refine wpAnyH_done (by kernel_rfl) ?_ _
      obtain ⟨i0, k0, hfd⟩ := found_of HMA.out HMB.out
      have FD := Lib.hid hfd
      clear hfd
      clear HSE
      go_wp2_with fail
      go_loopw [15, 16, 17] (fun s i _ wr => ∃ (k : Nat) (b : Bool), k ≤ na ∧ i = .int .i64 (k : Int) ∧ s = .bool b ∧ (i0 < k → b = true) ∧ SetAt S w w.heap.size wr) (fun _ i _ _ => na - (intOf i).toNat)
      case atStart => exact ⟨0, false, Nat.zero_le _, rfl, rfl, fun h => absurd h (Nat.not_lt_zero _), HS0.out⟩
      case round =>
        clear HS0
        obtain ⟨k, b, hk, rfl, rfl, hb0, hst⟩ := hrel
        have HBO := Lib.hid hb0
        have HST := Lib.hid hst
        clear hb0 hst
        obtain ⟨wo, rfl⟩ : ∃ wo : World, wo = wr := ⟨_, rfl⟩
        by_cases hlt : k < na
        · have hkA : k < Ka.length := by rw [← HNA.out]; exact hlt
          obtain ⟨ba, offa, rfl, hma⟩ := HA3.out k hkA
          obtain ⟨z1, hz1⟩ : ∃ z, z = Ka[k] := ⟨_, rfl⟩
          rw [← hz1] at hma
          have HZ1 : Hid (Ka[k]? = some z1) := Lib.hid (by rw [List.getElem?_eq_getElem hkA, hz1])
          have HQ1 := Lib.hid hma
          have hk0 : (0 : Int) ≤ (k : Int) := Int.natCast_nonneg _
          clear hma hz1 hkA
          go_wp2_with fail
          go_loopw [15, 17] (fun s i wx => ∃ (j : Nat) (b : Bool), j ≤ nb ∧ i = .int .i64 (j : Int) ∧ s = .bool b ∧ (i0 < k → b = true) ∧ (i0 = k → k0 < j → b = true) ∧ SetAt S w w.heap.size wx) (fun _ i _ => nb - (intOf i).toNat)
          case atStart => exact ⟨0, b, Nat.zero_le _, rfl, rfl, HBO.out, fun _ h => absurd h (Nat.not_lt_zero _), HST.out⟩
          case round =>
            clear HBO HST
            obtain ⟨j, b2, hj, rfl, rfl, hb1, hb2, hst⟩ := hrel
            have HBO := Lib.hid hb1
            have HBI := Lib.hid hb2
            have HSX := Lib.hid hst
            clear hb1 hb2 hst
            by_cases hjlt : j < nb
            · have hjB : j < Kb.length := by rw [← HNB.out]; exact hjlt
              obtain ⟨bb, offb, rfl, hmb⟩ := HB3.out j hjB
              obtain ⟨z2, hz2⟩ : ∃ z, z = Kb[j] := ⟨_, rfl⟩
              rw [← hz2] at hmb
              have HZ2 : Hid (Kb[j]? = some z2) := Lib.hid (by rw [List.getElem?_eq_getElem hjB, hz2])
              have q1 := HSX.out.2.cell HQ1.out
              have q2 := HSX.out.2.cell hmb
              have hj0 : (0 : Int) ≤ (j : Int) := Int.natCast_nonneg _
              clear hmb hz2 hjB
              go_upto_region 11 with (fail)
              rcases (by cases b2 <;> simp : b2 = true ∨ b2 = false) with rfl | rfl
              · skip
                refine qRegion (fun w' => ((w'.cell? ⟨ba, offa + k, none⟩ = some (.int .i64 z1) ∧ w'.cell? ⟨bb, offb + j, none⟩ = some (.int .i64 z2)) ∧ SetAt S w w.heap.size w')) (by kernel_rfl) (by kernel_rfl) ⟨⟨(Gr.refl _).drew.cell q1, (Gr.refl _).drew.cell q2⟩, keepS HSX.out (Gr.refl _).drew⟩ ?_
                iterate 2
                  refine qTake (by kernel_rfl) ?_
                  apply Exists.intro
                  refine ⟨fun wq hq => ?_, ?_⟩
                  · go_light
                    obtain ⟨⟨l0, l1⟩, ⟨e0, e1, e2, e3, e4, e5, e6, e7⟩, _⟩ := hq
                    go_simp
                    try with_reducible rfl
                    done
                  try simp only [Act.put, List.setIfInBounds_toArray, List.set_cons_zero, List.set_cons_succ]
                iterate 31
                  refine qSkip (by kernel_rfl) ?_
                  try simp only [Act.put, List.setIfInBounds_toArray, List.set_cons_zero, List.set_cons_succ]
                iterate 2
                  refine qTake (by kernel_rfl) ?_
                  apply Exists.intro
                  refine ⟨fun wq hq => ?_, ?_⟩
                  · go_light
                    obtain ⟨⟨l0, l1⟩, ⟨e0, e1, e2, e3, e4, e5, e6, e7⟩, _⟩ := hq
                    go_simp
                    try with_reducible rfl
                    done
                  try simp only [Act.put, List.setIfInBounds_toArray, List.set_cons_zero, List.set_cons_succ]
                refine qNil ?_
                intro w5 hC5
                have HS5 : Hid (SetAt S w w.heap.size w5) := Lib.hid hC5.2
                have HNX := Lib.hid (found_next FD.out HBI.out HZ1.out HZ2.out (b' := true) (fun _ _ => rfl) (fun _ => rfl))
                clear hC5
                go_wp2_with fail
                go_roundw
                case measure => simp [intOf]; omega
                case rel => exact ⟨j + 1, true, hjlt, by go_num, rfl, fun h => (fun _ => rfl) (HBO.out h), HNX.out, HS5.out⟩
              · by_cases heq : z1 = z2
                case neg =>
                  have t1 : (z1 == z2) = false := by simpa using heq
                  have HNE := Lib.hid heq
                  clear heq
                  refine qRegion (fun w' => ((w'.cell? ⟨ba, offa + k, none⟩ = some (.int .i64 z1) ∧ w'.cell? ⟨bb, offb + j, none⟩ = some (.int .i64 z2)) ∧ SetAt S w w.heap.size w')) (by kernel_rfl) (by kernel_rfl) ⟨⟨(Gr.refl _).drew.cell q1, (Gr.refl _).drew.cell q2⟩, keepS HSX.out (Gr.refl _).drew⟩ ?_
                  iterate 12
                    refine qTake (by kernel_rfl) ?_
                    apply Exists.intro
                    refine ⟨fun wq hq => ?_, ?_⟩
                    · go_light
                      obtain ⟨⟨l0, l1⟩, ⟨e0, e1, e2, e3, e4, e5, e6, e7⟩, _⟩ := hq
                      go_simp
                      try with_reducible rfl
                      done
                    try simp only [Act.put, List.setIfInBounds_toArray, List.set_cons_zero, List.set_cons_succ]
                  iterate 5
                    refine qSkip (by kernel_rfl) ?_
                    try simp only [Act.put, List.setIfInBounds_toArray, List.set_cons_zero, List.set_cons_succ]
                  iterate 2
                    refine qTake (by kernel_rfl) ?_
                    apply Exists.intro
                    refine ⟨fun wq hq => ?_, ?_⟩
                    · go_light
                      obtain ⟨⟨l0, l1⟩, ⟨e0, e1, e2, e3, e4, e5, e6, e7⟩, _⟩ := hq
                      go_simp
                      try with_reducible rfl
                      done
                    try simp only [Act.put, List.setIfInBounds_toArray, List.set_cons_zero, List.set_cons_succ]
                  iterate 5
                    refine qSkip (by kernel_rfl) ?_
                    try simp only [Act.put, List.setIfInBounds_toArray, List.set_cons_zero, List.set_cons_succ]
                  iterate 2
                    refine qTake (by kernel_rfl) ?_
                    apply Exists.intro
                    refine ⟨fun wq hq => ?_, ?_⟩
                    · go_light
                      obtain ⟨⟨l0, l1⟩, ⟨e0, e1, e2, e3, e4, e5, e6, e7⟩, _⟩ := hq
                      go_simp
                      try with_reducible rfl
                      done
                    try simp only [Act.put, List.setIfInBounds_toArray, List.set_cons_zero, List.set_cons_succ]
                  iterate 6
                    refine qSkip (by kernel_rfl) ?_
                    try simp only [Act.put, List.setIfInBounds_toArray, List.set_cons_zero, List.set_cons_succ]
                  iterate 3
                    refine qTake (by kernel_rfl) ?_
                    apply Exists.intro
                    refine ⟨fun wq hq => ?_, ?_⟩
                    · go_light
                      obtain ⟨⟨l0, l1⟩, ⟨e0, e1, e2, e3, e4, e5, e6, e7⟩, _⟩ := hq
                      go_simp
                      try with_reducible rfl
                      done
                    try simp only [Act.put, List.setIfInBounds_toArray, List.set_cons_zero, List.set_cons_succ]
                  refine qNil ?_
                  intro w5 hC5
                  have HS5 : Hid (SetAt S w w.heap.size w5) := Lib.hid hC5.2
                  have HNX := Lib.hid (found_next FD.out HBI.out HZ1.out HZ2.out (b' := false) (fun e _ => absurd e HNE.out) (fun h => h))
                  clear hC5
                  go_wp2_with fail
                  go_roundw
                  case measure => simp [intOf]; omega
                  case rel => exact ⟨j + 1, false, hjlt, by go_num, rfl, fun h => (fun h => h) (HBO.out h), HNX.out, HS5.out⟩
                case pos =>
                  subst heq
                  by_cases hz0 : 0 ≤ z1
                  case neg =>
                    have t1 : decide (0 ≤ z1) = false := decide_eq_false hz0
                    have HIN : Hid (inSet S z1 = false) := Lib.hid (by unfold inSet; rw [t1]; rfl)
                    clear hz0
                    refine qRegion (fun w' => ((w'.cell? ⟨ba, offa + k, none⟩ = some (.int .i64 z1) ∧ w'.cell? ⟨bb, offb + j, none⟩ = some (.int .i64 z1)) ∧ SetAt S w w.heap.size w')) (by kernel_rfl) (by kernel_rfl) ⟨⟨(Gr.refl _).drew.cell q1, (Gr.refl _).drew.cell q2⟩, keepS HSX.out (Gr.refl _).drew⟩ ?_
                    iterate 19
                      refine qTake (by kernel_rfl) ?_
                      apply Exists.intro
                      refine ⟨fun wq hq => ?_, ?_⟩
                      · go_light
                        obtain ⟨⟨l0, l1⟩, ⟨e0, e1, e2, e3, e4, e5, e6, e7⟩, _⟩ := hq
                        go_simp
                        try with_reducible rfl
                        done
                      try simp only [Act.put, List.setIfInBounds_toArray, List.set_cons_zero, List.set_cons_succ]
                    iterate 5
                      refine qSkip (by kernel_rfl) ?_
                      try simp only [Act.put, List.setIfInBounds_toArray, List.set_cons_zero, List.set_cons_succ]
                    iterate 2
                      refine qTake (by kernel_rfl) ?_
                      apply Exists.intro
                      refine ⟨fun wq hq => ?_, ?_⟩
                      · go_light
                        obtain ⟨⟨l0, l1⟩, ⟨e0, e1, e2, e3, e4, e5, e6, e7⟩, _⟩ := hq
                        go_simp
                        try with_reducible rfl
                        done
                      try simp only [Act.put, List.setIfInBounds_toArray, List.set_cons_zero, List.set_cons_succ]
                    iterate 6
                      refine qSkip (by kernel_rfl) ?_
                      try simp only [Act.put, List.setIfInBounds_toArray, List.set_cons_zero, List.set_cons_succ]
                    iterate 3
                      refine qTake (by kernel_rfl) ?_
                      apply Exists.intro
                      refine ⟨fun wq hq => ?_, ?_⟩
                      · go_light
                        obtain ⟨⟨l0, l1⟩, ⟨e0, e1, e2, e3, e4, e5, e6, e7⟩, _⟩ := hq
                        go_simp
                        try with_reducible rfl
                        done
                      try simp only [Act.put, List.setIfInBounds_toArray, List.set_cons_zero, List.set_cons_succ]
                    refine qNil ?_
                    intro w5 hC5
                    have HS5 : Hid (SetAt S w w.heap.size w5) := Lib.hid hC5.2
                    have HNX := Lib.hid (found_next FD.out HBI.out HZ1.out HZ2.out (b' := false) (fun _ h => by rw [HIN.out] at h; exact h) (fun h => h))
                    clear hC5
                    go_wp2_with fail
                    go_roundw
                    case measure => simp [intOf]; omega
                    case rel => exact ⟨j + 1, false, hjlt, by go_num, rfl, fun h => (fun h => h) (HBO.out h), HNX.out, HS5.out⟩
                  case pos =>
                    by_cases hz8 : z1 < 8
                    case neg =>
                      have t1 : decide (z1 < 8) = false := decide_eq_false hz8
                      have HIN : Hid (inSet S z1 = false) := Lib.hid (by unfold inSet; rw [t1, Bool.false_and, Bool.and_false])
                      clear hz8
                      refine qRegion (fun w' => ((w'.cell? ⟨ba, offa + k, none⟩ = some (.int .i64 z1) ∧ w'.cell? ⟨bb, offb + j, none⟩ = some (.int .i64 z1)) ∧ SetAt S w w.heap.size w')) (by kernel_rfl) (by kernel_rfl) ⟨⟨(Gr.refl _).drew.cell q1, (Gr.refl _).drew.cell q2⟩, keepS HSX.out (Gr.refl _).drew⟩ ?_
                      iterate 26
                        refine qTake (by kernel_rfl) ?_
                        apply Exists.intro
                        refine ⟨fun wq hq => ?_, ?_⟩
                        · go_light
                          obtain ⟨⟨l0, l1⟩, ⟨e0, e1, e2, e3, e4, e5, e6, e7⟩, _⟩ := hq
                          go_simp
                          try with_reducible rfl
                          done
                        try simp only [Act.put, List.setIfInBounds_toArray, List.set_cons_zero, List.set_cons_succ]
                      iterate 6
                        refine qSkip (by kernel_rfl) ?_
                        try simp only [Act.put, List.setIfInBounds_toArray, List.set_cons_zero, List.set_cons_succ]
                      iterate 3
                        refine qTake (by kernel_rfl) ?_
                        apply Exists.intro
                        refine ⟨fun wq hq => ?_, ?_⟩
                        · go_light
                          obtain ⟨⟨l0, l1⟩, ⟨e0, e1, e2, e3, e4, e5, e6, e7⟩, _⟩ := hq
                          go_simp
                          try with_reducible rfl
                          done
                        try simp only [Act.put, List.setIfInBounds_toArray, List.set_cons_zero, List.set_cons_succ]
                      refine qNil ?_
                      intro w5 hC5
                      have HS5 : Hid (SetAt S w w.heap.size w5) := Lib.hid hC5.2
                      have HNX := Lib.hid (found_next FD.out HBI.out HZ1.out HZ2.out (b' := false) (fun _ h => by rw [HIN.out] at h; exact h) (fun h => h))
                      clear hC5
                      go_wp2_with fail
                      go_roundw
                      case measure => simp [intOf]; omega
                      case rel => exact ⟨j + 1, false, hjlt, by go_num, rfl, fun h => (fun h => h) (HBO.out h), HNX.out, HS5.out⟩
                    case pos =>
                      obtain ⟨m0, rfl⟩ := Int.eq_ofNat_of_zero_le hz0
                      have hm8 : m0 < 8 := by omega
                      have qm : wr.cell? ⟨w.heap.size, m0, none⟩ = some (.bool (S m0)) := set_cell HSX.out hm8
                      have HIN : Hid (inSet S (m0 : Int) = S m0) := Lib.hid (inSet_nat S hm8)
                      refine qRegion (fun w' => ((w'.cell? ⟨ba, offa + k, none⟩ = some (.int .i64 ((m0 : Nat) : Int)) ∧ w'.cell? ⟨bb, offb + j, none⟩ = some (.int .i64 ((m0 : Nat) : Int))) ∧ w'.cell? ⟨w.heap.size, m0, none⟩ = some (.bool (S m0)) ∧ SetAt S w w.heap.size w')) (by kernel_rfl) (by kernel_rfl) ⟨⟨(Gr.refl _).drew.cell q1, (Gr.refl _).drew.cell q2⟩, (Gr.refl _).drew.cell qm, keepS HSX.out (Gr.refl _).drew⟩ ?_
                      iterate 35
                        refine qTake (by kernel_rfl) ?_
                        apply Exists.intro
                        refine ⟨fun wq hq => ?_, ?_⟩
                        · go_light
                          obtain ⟨⟨l0, l1⟩, ee, ⟨e0, e1, e2, e3, e4, e5, e6, e7⟩, _⟩ := hq
                          go_simp
                          try with_reducible rfl
                          done
                        try simp only [Act.put, List.setIfInBounds_toArray, List.set_cons_zero, List.set_cons_succ]
                      refine qNil ?_
                      intro w5 hC5
                      have HS5 : Hid (SetAt S w w.heap.size w5) := Lib.hid hC5.2.2
                      have HNX := Lib.hid (found_next FD.out HBI.out HZ1.out HZ2.out (b' := S m0) (fun _ h => by rw [HIN.out] at h; exact h) (fun h => by cases h))
                      clear hC5
                      go_wp2_with fail
                      go_roundw
                      case measure => simp [intOf]; omega
                      case rel => exact ⟨j + 1, S m0, hjlt, by go_num, rfl, fun h => (fun h => by cases h) (HBO.out h), HNX.out, HS5.out⟩
            · obtain rfl : j = nb := by omega
              have HFO : Hid (i0 < k + 1 → b2 = true) := Lib.hid (fun h => by
                by_cases e : i0 = k
                · exact HBI.out e (by have := FD.out.hb; rw [HNB.out]; exact this)
                · exact HBO.out (by omega))
              go_wp2_with fail
              go_roundw
              case measure => simp [intOf]; omega
              case rel => exact ⟨k + 1, b2, hlt, by go_num, rfl, HFO.out, HSX.out⟩
        · obtain rfl : k = na := by omega
          obtain rfl : b = true := HBO.out (by have := FD.out.ha; rw [HNA.out]; exact this)
          have HGE := Lib.hid HST.out.2
          go_upto_region 14 with (fail)
          go_wp2_with fail
          refine (H1.out _).mono ?_
          rintro e w9 ⟨rfl, g9⟩
          have HG9 := Lib.hid (HGE.out.trans g9)
          clear g9
          go_wp2_with fail
          refine (H2.out _).mono ?_
          rintro e w10 ⟨rfl, g10⟩
          have HG10 := Lib.hid (HG9.out.trans g10)
          clear g10
          rcases HFIN.out with e1 | ⟨e1, e2⟩ | ⟨e1, e2, h⟩
          · subst e1
            clear HFIN H1 H2
            go_wp2_with fail
            go_ret
            exact ⟨rfl, HG10.out⟩
          · subst e1 e2
            clear HFIN H1 H2
            go_wp2_with fail
            go_ret
            exact ⟨rfl, HG10.out⟩
          · subst e1 e2
            clear HFIN H1 H2
            rcases h with ⟨h1, h2, h3⟩ | ⟨h1, h2, h3⟩ | ⟨h1, h2⟩ | ⟨h1, h2⟩
            · subst h1 h2 h3
              go_wp2_with fail
              go_ret
              exact ⟨rfl, HG10.out⟩
            · subst h2
              have t1 : ((N1 : Int) == (N2 : Int)) = false := by simp; omega
              have t2 : (m == n) = false := by simpa using h3
              clear h1 h3
              go_wp2_with fail
              go_ret
              exact ⟨rfl, HG10.out⟩
            · have t1 : ((N1 : Int) == (N2 : Int)) = false := by simp; omega
              have t2 : ((r : Int) == (ot : Int)) = false := by simp; omega
              have t3 : decide (ot ≤ r) = true := decide_eq_true (by omega)
              clear h1 h2
              go_wp2_with fail
              go_ret
              exact ⟨rfl, HG10.out⟩
            · have t1 : ((N1 : Int) == (N2 : Int)) = false := by simp; omega
              have t2 : ((r : Int) == (ot : Int)) = false := by simp; omega
              have t3 : decide (ot ≤ r) = false := decide_eq_false (by omega)
              have t4 : decide (N1 < N2) = true := decide_eq_true h1
              clear h1 h2
              go_wp2_with fail
              go_ret
              exact ⟨rfl, HG10.out⟩
end Go.Proofs.Ytboonfbbnidmbaa
