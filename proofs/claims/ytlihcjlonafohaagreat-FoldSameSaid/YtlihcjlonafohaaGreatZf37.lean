/- Walks: the document's sum. Walks: the document's Closed. What a store into a box of a value leaves; what the rounds of the document's Value leave. -/
import Derived.Test.YtlihcjlonafohaaGreatZf29
import Derived.Test.YtlihcjlonafohaaGreatZf09
namespace Go.Proofs.YtlihcjlonafohaaGreat
open Go.RowKit Go.Joins
set_option linter.unusedSimpArgs false
set_option linter.unusedVariables false

def sumP (L : List (TX × Nat)) : Nat → Int
  | 0 => 0
  | j + 1 => sumP L j + (match L[j]? with | some x => (opAt x.1 x.2).n | none => 0)
theorem sumP_next {L : List (TX × Nat)} {j : Nat} (h : j < L.length) : sumP L (j + 1) = sumP L j + (opAt L[j].1 L[j].2).n := by
  show _ + _ = _
  rw [List.getElem?_eq_getElem h]
def sumAll (L : List (TX × Nat)) : Int := sumP L L.length
theorem plTx_mem {key : ByteArray} {kind : Int} {t : TX} : ∀ {j : Nat} {x : TX × Nat}, x ∈ plTx key kind t j ↔ x.1 = t ∧ x.2 < j ∧ ∃ o, t.ops[x.2]? = some o ∧ isPl key kind o = true
  | 0, x => by
    constructor
    · intro h; cases h
    · intro h; exact absurd h.2.1 (Nat.not_lt_zero _)
  | j + 1, x => by
    show x ∈ plTx key kind t j ++ _ ↔ _
    rw [List.mem_append, plTx_mem]
    constructor
    · rintro (⟨h1, h2, h3⟩ | h)
      · exact ⟨h1, by omega, h3⟩
      · split at h
        · next o ho =>
          split at h
          · next hk =>
            obtain rfl := List.mem_singleton.1 h
            exact ⟨rfl, Nat.lt_succ_self _, o, ho, hk⟩
          · cases h
        · cases h
    · rintro ⟨h1, h2, o, h3, h4⟩
      rcases Nat.lt_or_ge x.2 j with c | c
      · exact .inl ⟨h1, c, o, h3, h4⟩
      · have e : x.2 = j := by omega
        refine .inr ?_
        rw [← e, h3]
        simp only [h4, if_true]
        exact List.mem_singleton.2 (by rw [← h1])
theorem plTo_mem {key : ByteArray} {kind : Int} {L : List TX} : ∀ {k : Nat} {x : TX × Nat}, x ∈ plTo key kind L k ↔ (∃ i, i < k ∧ L[i]? = some x.1) ∧ ∃ o, x.1.ops[x.2]? = some o ∧ isPl key kind o = true
  | 0, x => by
    constructor
    · intro h; cases h
    · rintro ⟨⟨i, hi, _⟩, _⟩; exact absurd hi (Nat.not_lt_zero _)
  | k + 1, x => by
    show x ∈ plTo key kind L k ++ _ ↔ _
    rw [List.mem_append, plTo_mem]
    constructor
    · rintro (⟨⟨i, hi, h1⟩, h2⟩ | h)
      · exact ⟨⟨i, by omega, h1⟩, h2⟩
      · split at h
        · next t ht =>
          obtain ⟨h1, h2, h3⟩ := plTx_mem.1 h
          exact ⟨⟨k, Nat.lt_succ_self _, by rw [h1]; exact ht⟩, by rw [h1]; exact h3⟩
        · cases h
    · rintro ⟨⟨i, hi, h1⟩, o, h2, h3⟩
      rcases Nat.lt_or_ge i k with c | c
      · exact .inl ⟨⟨i, c, h1⟩, o, h2, h3⟩
      · have e : i = k := by omega
        refine .inr ?_
        rw [← e, h1]
        exact plTx_mem.2 ⟨rfl, (List.getElem?_eq_some_iff.1 h2).1, o, h2, h3⟩
theorem plL_mem {key : ByteArray} {kind : Int} {L : List TX} {x : TX × Nat} : x ∈ plL key kind L ↔ x.1 ∈ L ∧ ∃ o, x.1.ops[x.2]? = some o ∧ isPl key kind o = true := by
  unfold plL
  rw [plTo_mem]
  constructor
  · rintro ⟨⟨i, hi, h1⟩, h2⟩
    exact ⟨List.mem_of_getElem? h1, h2⟩
  · rintro ⟨h1, h2⟩
    obtain ⟨i, hi⟩ := List.mem_iff_getElem?.1 h1
    exact ⟨⟨i, (List.getElem?_eq_some_iff.1 hi).1, hi⟩, h2⟩
theorem plL_in (key : ByteArray) (kind : Int) (L : List TX) : InP (plL key kind L) := fun x hx => by
  obtain ⟨-, o, h, -⟩ := plL_mem.1 hx
  exact (List.getElem?_eq_some_iff.1 h).1
set_option maxRecDepth 100000 in
set_option maxHeartbeats 8000000 in
theorem rsum_any (v : Value) (L : List TX) (key : ByteArray) (w : World) (h : XV w v L) (hop : ∀ t ∈ L, t.ops.length ≤ 8) (hL : L.length ≤ 65536) :
    Calls Tryz.prog 56 #[v, .string key] w fun e w' => e = .returned (.int .i64 (wrap64 (sumAll (plL key 1 L) - sumAll (plL key 2 L)))) ∧ Gr w w' := by
  have HP1 := Lib.hid (places_any v L key 1 w h hop hL)
  have HP2 := Lib.hid (fun w1 (g : Gr w w1) => places_any v L key 2 w1 (h.gr g) hop hL)
  have HI1 := Lib.hid (plL_in key 1 L)
  have HI2 := Lib.hid (plL_in key 2 L)
  obtain ⟨A, c, hvf, -⟩ := h
  subst hvf
  obtain ⟨D1, hD1⟩ : ∃ x, x = plL key 1 L := ⟨_, rfl⟩
  obtain ⟨D2, hD2⟩ : ∃ x, x = plL key 2 L := ⟨_, rfl⟩
  rw [← hD1] at HP1 HI1 ⊢
  rw [← hD2] at HP2 HI2 ⊢
  obtain ⟨n0, hn0⟩ : ∃ n, n = L.length := ⟨_, rfl⟩
  rw [← hn0] at HP1 HP2 ⊢
  have hw0 : Hid ((0 : Int) = wrap64 (sumP D1 0)) := Lib.hid (by show (0 : Int) = wrap64 0; unfold wrap64; omega)
  clear hop hL hn0 hD1 hD2
  go_enter Tryz.func56, Tryz.ntmps56
  go_wp2_with fail
  refine HP1.out.mono ?_
  rintro e w1 ⟨s1, rfl, hp1, g1⟩
  obtain ⟨A1, c1, hs1, hnc1, ⟨hcm1, -⟩, hat1⟩ := hp1
  subst hs1
  have HAT1 : Hid (∀ j (hj : j < D1.length), ∃ b off, A1 = some ⟨b, off, none⟩ ∧ PCl w1 b (off + j * 13) D1[j]) := Lib.hid hat1
  obtain ⟨n1, hn1⟩ : ∃ n, n = D1.length := ⟨_, rfl⟩
  rw [← hn1]
  have HN1 := Lib.hid hn1
  have hnb1 : n1 ≤ 9223372036854775807 := by unfold maxLen at hcm1; omega
  have HG1 : Hid (Gr w w1) := Lib.hid (g1)
  clear hat1 hn1 hnc1 hcm1 g1
  go_wp2_with fail
  go_loopw [5, 14] (fun s i wr => ∃ j : Nat, j ≤ n1 ∧ s = .int .i64 (wrap64 (sumP D1 j)) ∧ i = .int .i64 j ∧ Hid (Gr w1 wr)) (fun _ i _ => n1 - (intOf i).toNat)
  case atStart => exact ⟨0, Nat.zero_le _, by rw [hw0.out], rfl, Lib.hid (Gr.refl _)⟩
  case round =>
    obtain ⟨j, hj, rfl, rfl, hst⟩ := hrel
    rename World => wr
    by_cases hjn : j < n1
    case pos =>
      have hj0 : (0 : Int) ≤ (j : Int) := Int.natCast_nonneg _
      have hjn1 : (j : Int) < (n1 : Int) := by omega
      have hjl : j < D1.length := by rw [← HN1.out]; exact hjn
      obtain ⟨b, off, hA, hpc⟩ := HAT1.out j hjl
      subst hA
      obtain ⟨y, hy⟩ : ∃ y, y = D1[j] := ⟨_, rfl⟩
      rw [← hy] at hpc
      obtain ⟨vy, hvy, hfy⟩ := hpc.gr hst.out
      have hyi : y.2 < y.1.ops.length := by rw [hy]; exact HI1.out _ (List.getElem_mem hjl)
      obtain ⟨Ay, cy, hvf⟩ := tov_form hvy
      subst hvf
      obtain ⟨W5, hW5, g5, -, hf5⟩ := pbox wr y (.slice Ay y.1.ops.length cy)
      have HOY := Lib.hid (fun w1 (g : Gr W5 w1) => pop_any y _ w1 ((hvy.gr g5).gr g) hyi)
      obtain ⟨yk, hyk⟩ : ∃ a, a = (opAt y.1 y.2).kind := ⟨_, rfl⟩
      obtain ⟨yy, hyy⟩ : ∃ a, a = (opAt y.1 y.2).key := ⟨_, rfl⟩
      obtain ⟨ye, hye⟩ : ∃ a, a = (opAt y.1 y.2).elem := ⟨_, rfl⟩
      obtain ⟨yn, hyn⟩ : ∃ a, a = (opAt y.1 y.2).n := ⟨_, rfl⟩
      unfold opv at HOY
      rw [← hyk, ← hyy, ← hye, ← hyn] at HOY
      have hfl1 := fun W => run_field_n yk yy ye yn W
      obtain ⟨x, hx⟩ : ∃ x, x = sumP D1 j := ⟨_, rfl⟩
      have HW : Hid (wrap64 (wrap64 x + yn) = wrap64 (sumP D1 (j + 1))) := Lib.hid (by rw [wrap_add, hx, sumP_next hjl, ← hy, ← hyn] <;> (congr 1; omega))
      rw [← hx]
      have HG5 := Lib.hid (hst.out.trans g5)
      obtain ⟨⟨f0, f1, f2, f3, f4, f5, f6, f7, f8, f9, f10, f11⟩, f12⟩ := hfy
      obtain ⟨⟨d0, d1, d2, d3, d4, d5, d6, d7, d8, d9, d10, d11⟩, d12⟩ := hf5
      clear hst hpc hvy hyi hy hyk hyy hye hyn hx g5
      go_upto_region 5 with (fail)
      rw [← hW5]
      clear hW5 f0 f1 f2 f3 f4 f5 f6 f7 f8 f9 f10 f11 f12
      go_wp2_with fail
      refine (HOY.out _ (Gr.refl _)).mono ?_
      rintro e w6 ⟨rfl, g6⟩
      have HG6 := Lib.hid (HG5.out.trans g6)
      clear g6 d0 d1 d2 d3 d4 d5 d6 d7 d8 d9 d10 d11 d12
      go_wp2_with fail
      go_roundw
      case measure => simp [intOf]; omega
      case rel => exact ⟨j + 1, by omega, by rw [← HW.out], by go_num, HG6⟩
    case neg =>
      obtain rfl : j = n1 := by omega
      have HGW := Lib.hid (HG1.out.trans hst.out)
      obtain ⟨x1, hx1⟩ : ∃ x, x = sumP D1 j := ⟨_, rfl⟩
      have HX1 : Hid (x1 = sumP D1 j) := Lib.hid hx1
      have HB2 : Hid (wrap64 x1 = wrap64 (x1 - sumP D2 0)) := Lib.hid (by show _ = wrap64 (x1 - 0); rw [Int.sub_zero])
      rw [← hx1]
      clear hst hx1
      go_wp2_with fail
      refine (HP2.out _ HGW.out).mono ?_
      rintro e w2 ⟨s2, rfl, hp2, g2⟩
      obtain ⟨A2, c2, hs2, hnc2, ⟨hcm2, -⟩, hat2⟩ := hp2
      subst hs2
      have HAT2 : Hid (∀ j (hj : j < D2.length), ∃ b off, A2 = some ⟨b, off, none⟩ ∧ PCl w2 b (off + j * 13) D2[j]) := Lib.hid hat2
      obtain ⟨n2, hn2⟩ : ∃ n, n = D2.length := ⟨_, rfl⟩
      rw [← hn2]
      have HN2 := Lib.hid hn2
      have hnb2 : n2 ≤ 9223372036854775807 := by unfold maxLen at hcm2; omega
      have HG2 : Hid (Gr w w2) := Lib.hid (HGW.out.trans g2)
      clear hat2 hn2 hnc2 hcm2 g2
      go_wp2_with fail
      go_loopw [5, 28] (fun s i wr => ∃ j : Nat, j ≤ n2 ∧ s = .int .i64 (wrap64 (x1 - sumP D2 j)) ∧ i = .int .i64 j ∧ Hid (Gr w2 wr)) (fun _ i _ => n2 - (intOf i).toNat)
      case atStart => exact ⟨0, Nat.zero_le _, by rw [HB2.out], rfl, Lib.hid (Gr.refl _)⟩
      case round =>
        obtain ⟨j, hj, rfl, rfl, hst⟩ := hrel
        rename World => wr
        by_cases hjn : j < n2
        case pos =>
          have hj0 : (0 : Int) ≤ (j : Int) := Int.natCast_nonneg _
          have hjn1 : (j : Int) < (n2 : Int) := by omega
          have hjl : j < D2.length := by rw [← HN2.out]; exact hjn
          obtain ⟨b, off, hA, hpc⟩ := HAT2.out j hjl
          subst hA
          obtain ⟨y, hy⟩ : ∃ y, y = D2[j] := ⟨_, rfl⟩
          rw [← hy] at hpc
          obtain ⟨vy, hvy, hfy⟩ := hpc.gr hst.out
          have hyi : y.2 < y.1.ops.length := by rw [hy]; exact HI2.out _ (List.getElem_mem hjl)
          obtain ⟨Ay, cy, hvf⟩ := tov_form hvy
          subst hvf
          obtain ⟨W5, hW5, g5, -, hf5⟩ := pbox wr y (.slice Ay y.1.ops.length cy)
          have HOY := Lib.hid (fun w1 (g : Gr W5 w1) => pop_any y _ w1 ((hvy.gr g5).gr g) hyi)
          obtain ⟨yk, hyk⟩ : ∃ a, a = (opAt y.1 y.2).kind := ⟨_, rfl⟩
          obtain ⟨yy, hyy⟩ : ∃ a, a = (opAt y.1 y.2).key := ⟨_, rfl⟩
          obtain ⟨ye, hye⟩ : ∃ a, a = (opAt y.1 y.2).elem := ⟨_, rfl⟩
          obtain ⟨yn, hyn⟩ : ∃ a, a = (opAt y.1 y.2).n := ⟨_, rfl⟩
          unfold opv at HOY
          rw [← hyk, ← hyy, ← hye, ← hyn] at HOY
          have hfl1 := fun W => run_field_n yk yy ye yn W
          obtain ⟨x, hx⟩ : ∃ x, x = x1 - sumP D2 j := ⟨_, rfl⟩
          have HW : Hid (wrap64 (wrap64 x - yn) = wrap64 (x1 - sumP D2 (j + 1))) := Lib.hid (by rw [wrap_sub, hx, sumP_next hjl, ← hy, ← hyn] <;> (congr 1; omega))
          rw [← hx]
          have HG5 := Lib.hid (hst.out.trans g5)
          obtain ⟨⟨f0, f1, f2, f3, f4, f5, f6, f7, f8, f9, f10, f11⟩, f12⟩ := hfy
          obtain ⟨⟨d0, d1, d2, d3, d4, d5, d6, d7, d8, d9, d10, d11⟩, d12⟩ := hf5
          clear hst hpc hvy hyi hy hyk hyy hye hyn hx g5
          go_upto_region 10 with (fail)
          rw [← hW5]
          clear hW5 f0 f1 f2 f3 f4 f5 f6 f7 f8 f9 f10 f11 f12
          go_wp2_with fail
          refine (HOY.out _ (Gr.refl _)).mono ?_
          rintro e w6 ⟨rfl, g6⟩
          have HG6 := Lib.hid (HG5.out.trans g6)
          clear g6 d0 d1 d2 d3 d4 d5 d6 d7 d8 d9 d10 d11 d12
          go_wp2_with fail
          go_roundw
          case measure => simp [intOf]; omega
          case rel => exact ⟨j + 1, by omega, by rw [← HW.out], by go_num, HG6⟩
        case neg =>
          obtain rfl : j = n2 := by omega
          have HE : Hid (wrap64 (x1 - sumP D2 j) = wrap64 (sumAll D1 - sumAll D2)) := Lib.hid (by rw [HX1.out]; unfold sumAll; rw [← HN1.out, ← HN2.out])
          have HGR := Lib.hid (HG2.out.trans hst.out)
          clear hst
          rw [HE.out]
          go_wp2_with fail
          go_ret
          exact ⟨rfl, HGR.out⟩
end Go.Proofs.YtlihcjlonafohaaGreat
namespace Go.Proofs.YtlihcjlonafohaaGreat
open Go.RowKit Go.Joins
set_option linter.unusedSimpArgs false
set_option linter.unusedVariables false

set_option maxRecDepth 100000 in
set_option maxHeartbeats 2000000 in
theorem rclosed_any (u : Nat → S3) (l : LG) (v : Nat → Nat) (w : World) (h : LV w u l) :
    Calls Tryz.prog 54 #[.agg (lcells u), .agg (vcells v)] w fun e w' => e = .returned (.bool (closedB l v)) ∧ Gr w w' := by
  obtain ⟨W, hW, hg, hsz, hL, hV⟩ := boxesLV u v w
  have HL := Lib.hid hL
  have HV := Lib.hid hV
  have HG := Lib.hid hg
  have HX := Lib.hid (h.gr hg)
  have HSZ := Lib.hid (fun w1 (g : Gr W w1) => rsize_any u l w1 ((h.gr hg).gr g))
  have HLQ := Lib.hid (fun w1 => rleq_any v (sizeV l) w1)
  obtain ⟨r, hr⟩ : ∃ r, r = leqB v (sizeV l) := ⟨_, rfl⟩
  rw [← hr] at HLQ
  have HR0 := Lib.hid hr
  clear hL hV hg hsz h hr
  go_enter Tryz.func54, Tryz.ntmps54
  go_upto_region 1 with (fail)
  rw [← hW]
  clear hW
  refine qRegion (fun w' => LC w' w.heap.size u ∧ VC w' (w.heap.size + 1) v ∧ Gr W w') (by kernel_rfl) (by kernel_rfl) ⟨HL.out.lc.gr (Gr.refl _).drew, HV.out.vc.gr (Gr.refl _).drew, (Gr.refl _).drew⟩ ?_
  iterate 2
    refine qTake (by kernel_rfl) ?_
    apply Exists.intro
    refine ⟨fun wq hq => ?_, ?_⟩
    · go_light
      obtain ⟨⟨l0, l1, l2, l3, l4, l5, l6, l7⟩, ⟨h0, h1, h2, h3, h4, h5, h6, h7⟩, hg⟩ := hq
      go_simp
      try with_reducible rfl
      done
    try simp only [Act.put, List.setIfInBounds_toArray, List.set_cons_zero, List.set_cons_succ]
  refine qCall (by kernel_rfl) ?_
  apply Exists.intro
  refine ⟨?_, ?_⟩
  · apply Exists.intro
    apply Exists.intro
    refine ⟨fun wq => ?_, fun wq hq => ?_⟩
    · go_light
      go_simp
      exact ⟨rfl, rfl⟩
    · exact (HSZ.out wq hq.2.2).mono fun e w'' ⟨he, hg⟩ => ⟨he, hq.1.gr hg, hq.2.1.gr hg, hq.2.2.trans hg⟩
  try simp only [Act.put, List.setIfInBounds_toArray, List.set_cons_zero, List.set_cons_succ]
  refine qCall (by kernel_rfl) ?_
  apply Exists.intro
  refine ⟨?_, ?_⟩
  · apply Exists.intro
    apply Exists.intro
    refine ⟨fun wq => ?_, fun wq hq => ?_⟩
    · go_light
      go_simp
      exact ⟨rfl, rfl⟩
    · exact (HLQ.out wq).mono fun e w'' ⟨he, hg⟩ => ⟨he, hq.1.gr hg, hq.2.1.gr hg, hq.2.2.trans hg⟩
  try simp only [Act.put, List.setIfInBounds_toArray, List.set_cons_zero, List.set_cons_succ]
  iterate 1
    refine qTake (by kernel_rfl) ?_
    apply Exists.intro
    refine ⟨fun wq hq => ?_, ?_⟩
    · go_light
      obtain ⟨⟨l0, l1, l2, l3, l4, l5, l6, l7⟩, ⟨h0, h1, h2, h3, h4, h5, h6, h7⟩, hg⟩ := hq
      go_simp
      try with_reducible rfl
      done
    try simp only [Act.put, List.setIfInBounds_toArray, List.set_cons_zero, List.set_cons_succ]
  refine qNil ?_
  rintro w3 ⟨hl3, hx3, hg3⟩
  have HG3 := Lib.hid hg3
  clear hx3 hg3
  rcases r with _ | _
  · have HF := Lib.hid (closedB_no (l := l) (v := v) fun hc => by have := hc.1; rw [← HR0.out] at this; cases this)
    clear hl3
    go_wp2_with fail
    go_ret
    exact ⟨by rw [HF.out]; rfl, HG.out.trans HG3.out⟩
  · have HR := Lib.hid HR0.out.symm
    simp only [Bool.not_true]
    clear hl3
    go_wp2_with fail
    go_loopw [5, 6] (fun i _ wr => ∃ k : Nat, k ≤ 8 ∧ i = .int .i64 k ∧ Hid (closedTo l v k) ∧ Gr W wr) (fun i _ _ => 8 - (intOf i).toNat)
    case atStart => exact ⟨0, by decide, rfl, Lib.hid (fun i d t hi => absurd hi (Nat.not_lt_zero _)), HG3.out⟩
    case round =>
      obtain ⟨k, hk, rfl, hct, hgr⟩ := hrel
      rename World => wo
      by_cases hlt : k < 8
      · have hk0 : (0 : Int) ≤ (k : Int) := Int.natCast_nonneg _
        have hk8 : (k : Int) < 8 := by omega
        have hvl : v k ≤ (l k).length := lq HR.out hlt
        obtain ⟨A, hA⟩ : ∃ A, A = (u k).a := ⟨_, rfl⟩
        obtain ⟨n, hn⟩ : ∃ n, n = (u k).n := ⟨_, rfl⟩
        obtain ⟨c, hc⟩ : ∃ c, c = (u k).c := ⟨_, rfl⟩
        have hnl : n = (l k).length := by rw [hn]; exact HX.out.len hlt
        have hcell := (HL.out.gr hgr).at hlt
        rw [← hA, ← hn, ← hc] at hcell
        have HCE := Lib.hid hcell
        have HA := Lib.hid hA
        have HGR := Lib.hid hgr
        have HVK := Lib.hid ((HV.out.gr hgr).at hlt)
        have HNL := Lib.hid hnl
        clear hgr hcell hA hn hc hnl
        go_wp2_with fail
        go_loopw [6] (fun i wx => ∃ d : Nat, d ≤ v k ∧ i = .int .u64 d ∧ Hid (closedIn l v k d) ∧ Gr wo wx) (fun i _ => v k - (intOf i).toNat)
        case atStart => exact ⟨0, Nat.zero_le _, rfl, Lib.hid (fun d t hd => absurd hd (Nat.not_lt_zero _)), Gr.refl _⟩
        case round =>
          obtain ⟨d, hd, rfl, hci, hgx⟩ := hrel
          rename World => wx
          have hvk := hgx.cell HVK.out
          by_cases hdv : d < v k
          · have hdl : d < (l k).length := by omega
            obtain ⟨b, off, ha, xv, hx0, hx⟩ := (HX.out.gr (HGR.out.trans hgx)).cell hlt hdl
            rw [← HA.out] at ha
            subst ha
            obtain ⟨t, ht⟩ : ∃ t, t = (l k)[d] := ⟨_, rfl⟩
            rw [← ht] at hx0 hx
            have HXF := Lib.hid hx
            have HV5 := Lib.hid ((HV.out.gr (HGR.out.trans hgx)).vc)
            have HC5 := Lib.hid (hgx.cell HCE.out)
            have HG5 := Lib.hid hgx
            have HT := Lib.hid (show (l k)[d]? = some t by rw [ht]; exact List.getElem?_eq_getElem hdl)
            have HLT := Lib.hid (fun w1 => rleq_any t.deps v w1)
            obtain ⟨r, hr⟩ : ∃ r, r = leqB t.deps v := ⟨_, rfl⟩
            rw [← hr] at HLT
            have HRT := Lib.hid hr
            have hd0 : (0 : Int) ≤ (d : Int) := by omega
            have hd1 : (d : Int) < (v k : Int) := by omega
            have hwu : IntKind.u64.wrap ((d : Int) + 1) = ((d + 1 : Nat) : Int) := by
              have h1 := (HX.out.cap hlt).1
              have h2 := (HX.out.cap hlt).2
              unfold maxLen at h2
              simp [IntKind.wrap, IntKind.bits, IntKind.signed]
              omega
            have hd2 : (d : Int) < (n : Int) := by have := HNL.out; omega
            clear hx0 hx ht hgx hr
            go_upto_region 9 with (fail)
            clear hvk
            refine qRegion (fun w' => w'.cell? ⟨w.heap.size, k, none⟩ = some (.slice (some ⟨b, off, none⟩) n c) ∧ XFix w' b (off + d * 12) t xv ∧ VC w' (w.heap.size + 1) v ∧ Gr wx w') (by kernel_rfl) (by kernel_rfl) ⟨(Gr.refl _).drew.cell HC5.out, HXF.out.gr (Gr.refl _).drew, HV5.out.gr (Gr.refl _).drew, (Gr.refl _).drew⟩ ?_
            iterate 8
              refine qTake (by kernel_rfl) ?_
              apply Exists.intro
              refine ⟨fun wq hq => ?_, ?_⟩
              · go_light
                obtain ⟨e0, ⟨x0, x1, x2, x3, x4, x5, x6, x7, x8, x9, x10, x11⟩, ⟨y0, y1, y2, y3, y4, y5, y6, y7⟩, hg⟩ := hq
                go_simp
                try with_reducible rfl
                done
              try simp only [Act.put, List.setIfInBounds_toArray, List.set_cons_zero, List.set_cons_succ]
            refine qCall (by kernel_rfl) ?_
            apply Exists.intro
            refine ⟨?_, ?_⟩
            · apply Exists.intro
              apply Exists.intro
              refine ⟨fun wq => ?_, fun wq hq => ?_⟩
              · go_light
                go_simp
                exact ⟨rfl, rfl⟩
              · exact (HLT.out wq).mono fun e w'' ⟨he, hg⟩ => ⟨he, hg.cell hq.1, hq.2.1.gr hg, hq.2.2.1.gr hg, hq.2.2.2.trans hg⟩
            try simp only [Act.put, List.setIfInBounds_toArray, List.set_cons_zero, List.set_cons_succ]
            iterate 1
              refine qTake (by kernel_rfl) ?_
              apply Exists.intro
              refine ⟨fun wq hq => ?_, ?_⟩
              · go_light
                obtain ⟨e0, ⟨x0, x1, x2, x3, x4, x5, x6, x7, x8, x9, x10, x11⟩, ⟨y0, y1, y2, y3, y4, y5, y6, y7⟩, hg⟩ := hq
                go_simp
                try with_reducible rfl
                done
              try simp only [Act.put, List.setIfInBounds_toArray, List.set_cons_zero, List.set_cons_succ]
            refine qNil ?_
            rintro w6 ⟨-, -, -, g6⟩
            have HG6 := Lib.hid (HG5.out.trans g6)
            clear g6
            rcases r with _ | _
            · have HF := Lib.hid (closedB_no (l := l) (v := v) fun hc => by have := hc.2 k d t hlt hdv HT.out; rw [← HRT.out] at this; cases this)
              go_wp2_with fail
              go_ret
              exact ⟨by rw [HF.out]; rfl, HG.out.trans (HGR.out.trans HG6.out)⟩
            · have HC2 := Lib.hid (closedIn_next hci.out HT.out HRT.out.symm)
              simp only [Bool.not_true]
              go_wp2_with fail
              go_roundw
              case measure => simp [intOf]; omega
              case rel => exact ⟨d + 1, by omega, by go_num, HC2, HG6.out⟩
          · obtain rfl : d = v k := by omega
            have HC2 := Lib.hid (closedTo_next hct.out hci.out)
            have HG6 := Lib.hid (HGR.out.trans hgx)
            clear hgx
            go_wp2_with fail
            go_roundw
            case measure => simp [intOf]; omega
            case rel => exact ⟨k + 1, by omega, by go_num, HC2, HG6.out⟩
      · obtain rfl : k = 8 := by omega
        have HF := Lib.hid (closedB_yes (l := l) (v := v) ⟨HR.out, hct.out⟩)
        have HGR := Lib.hid hgr
        clear hgr
        go_wp2_with fail
        go_ret
        exact ⟨by rw [HF.out]; rfl, HG.out.trans HGR.out⟩
end Go.Proofs.YtlihcjlonafohaaGreat
namespace Go.Proofs.YtlihcjlonafohaaGreat
open Go.RowKit Go.Joins
set_option linter.unusedSimpArgs false
set_option linter.unusedVariables false

/-- A box of a value lies here. -/
def QBox (w : World) (Q : Nat) (n : Int) (A : Option Addr) (m c : Nat) (on : Bool) : Prop := w.heap[Q]? = some (.cells #[.int .i64 n, .slice A m c, .bool on] 49 (0, 0))
theorem QBox.gr {w w' : World} {Q : Nat} {n : Int} {A : Option Addr} {m c : Nat} {on : Bool} (h : QBox w Q n A m c on) (g : Gr w w') : QBox w' Q n A m c on := gr_obj g h
theorem QBox.cells {w : World} {Q : Nat} {n : Int} {A : Option Addr} {m c : Nat} {on : Bool} (h : QBox w Q n A m c on) : w.cell? ⟨Q, 0, none⟩ = some (.int .i64 n) ∧ w.cell? ⟨Q, 1, none⟩ = some (.slice A m c) ∧ w.cell? ⟨Q, 2, none⟩ = some (.bool on) := by
  have h : w.heap[Q]? = _ := h
  refine ⟨?_, ?_, ?_⟩ <;> (rw [cell_of_block h]; rfl)
theorem QBox.fz {w : World} {Q : Nat} {n : Int} {A : Option Addr} {m c : Nat} {on : Bool} (h : QBox w Q n A m c on) : w.frozen? ⟨Q, 0, none⟩ = false ∧ w.frozen? ⟨Q, 1, none⟩ = false ∧ w.frozen? ⟨Q, 2, none⟩ = false :=
  ⟨unfrozen_of_block h 0, unfrozen_of_block h 1, unfrozen_of_block h 2⟩
theorem QBox.lt {w : World} {Q : Nat} {n : Int} {A : Option Addr} {m c : Nat} {on : Bool} (h : QBox w Q n A m c on) : Q < w.heap.size := (Array.getElem?_eq_some_iff.1 h).1
theorem QBox.set1 {w : World} {Q : Nat} {n : Int} {A : Option Addr} {m c : Nat} {on : Bool} (h : QBox w Q n A m c on) (A' : Option Addr) (m' c' : Nat) : QBox (w.setCell ⟨Q, 1, none⟩ (.slice A' m' c')) Q n A' m' c' on := set_obj (i := 1) h _
theorem QBox.set2 {w : World} {Q : Nat} {n : Int} {A : Option Addr} {m c : Nat} {on : Bool} (h : QBox w Q n A m c on) (on' : Bool) : QBox (w.setCell ⟨Q, 2, none⟩ (.bool on')) Q n A m c on' := set_obj (i := 2) h _
/-- No string lies in a box of a value. -/
theorem QBox.ne {w : World} {Q : Nat} {n : Int} {A : Option Addr} {m c : Nat} {on : Bool} (h : QBox w Q n A m c on) {b i : Nat} {s : ByteArray} (hc : w.cell? ⟨b, i, none⟩ = some (.string s)) : b ≠ Q := by
  intro e
  subst e
  have h : w.heap[b]? = _ := h
  rw [cell_of_block h] at hc
  match i with
  | 0 => cases hc
  | 1 => cases hc
  | 2 => cases hc
  | k + 3 => cases hc
theorem SV.kq {w w' : World} {Q : Nat} {n : Int} {A : Option Addr} {m c : Nat} {on : Bool} (h : QBox w Q n A m c on) (k : Kp (some Q) w w') {v : Value} {E : List ByteArray} (hv : SV w v E) : SV w' v E := by
  obtain ⟨A', c', hv', h1, h2, h3⟩ := hv
  refine ⟨A', c', hv', h1, h2, fun j hj => ?_⟩
  obtain ⟨b, off, ha, hc⟩ := h3 j hj
  exact ⟨b, off, ha, k.cellNe hc (h.ne hc)⟩
theorem TOV.kq {w w' : World} {Q : Nat} {n : Int} {A : Option Addr} {m c : Nat} {on : Bool} (h : QBox w Q n A m c on) (k : Kp (some Q) w w') {v : Value} {L : List TO} (hv : TOV w v L) : TOV w' v L := by
  obtain ⟨A', c', hv', h1, h2, h3⟩ := hv
  refine ⟨A', c', hv', h1, h2, fun j hj => ?_⟩
  obtain ⟨b, off, ha, c0, c1, c2, c3⟩ := h3 j hj
  have hb := h.ne c1
  exact ⟨b, off, ha, k.cellNe c0 hb, k.cellNe c1 hb, k.cellNe c2 hb, k.cellNe c3 hb⟩
theorem PLT.kq {w w' : World} {Q : Nat} {n : Int} {A : Option Addr} {m c : Nat} {on : Bool} (h : QBox w Q n A m c on) (k : Kp (some Q) w w') {R : List PR} (hv : PLT w R) : PLT w' R := fun r hr => TOV.kq h k (hv r hr)
theorem PLO.kq {w w' : World} {Q B : Nat} {n : Int} {A : Option Addr} {m c : Nat} {on : Bool} (h : QBox w Q n A m c on) (k : Kp (some Q) w w') {v : Value} {R : List PR} (hv : PLO w B v R) : PLO w' B v R :=
  World.ownsRow.kept hv k (.inr (own_ne_obj hv h (by decide)))
/-- A row of places and what they tell. -/
structure PLR (w : World) (v : Value) (L : List (TX × Nat)) : Prop where
  ex : ∃ B R, PLO w B v R ∧ R.map (·.1) = L ∧ PLT w R
theorem PLR.gr {w w' : World} {v : Value} {L : List (TX × Nat)} (h : PLR w v L) (g : Gr w w') : PLR w' v L := by
  obtain ⟨B, R, h1, h2, h3⟩ := h.ex
  exact ⟨B, R, h1.gr g, h2, h3.gr g⟩
theorem PLR.kq {w w' : World} {Q : Nat} {n : Int} {A : Option Addr} {m c : Nat} {on : Bool} (h : QBox w Q n A m c on) (k : Kp (some Q) w w') {v : Value} {L : List (TX × Nat)} (hv : PLR w v L) : PLR w' v L := by
  obtain ⟨B, R, h1, h2, h3⟩ := hv.ex
  exact ⟨B, R, h1.kq h k, h2, h3.kq h k⟩
theorem PLR.plv {w : World} {v : Value} {L : List (TX × Nat)} (h : PLR w v L) : PLV w v L := by
  obtain ⟨B, R, h1, h2, h3⟩ := h.ex
  rw [← h2]
  exact h1.plv h3
theorem placesP_any (v : Value) (L : List TX) (key : ByteArray) (kind : Int) (w : World) (h : XV w v L) (hop : ∀ t ∈ L, t.ops.length ≤ 8) (hL : L.length ≤ 65536) :
    Calls Tryz.prog 55 #[v, .string key, .int .i64 kind] w fun e w' => ∃ A c, e = .returned (.slice A (plL key kind L).length c) ∧ PLR w' (.slice A (plL key kind L).length c) (plL key kind L) ∧ Gr w w' :=
  (placesR_any v L key kind w h hop hL).mono fun e w' ⟨s, R, he, h1, h2, h3, g⟩ => by
    have hp : PLR w' s (plL key kind L) := ⟨_, R, h1, h2, h3.gr g⟩
    obtain ⟨A, c, hs⟩ := plv_form hp.plv
    subst hs
    exact ⟨A, c, he, hp, g⟩
/-- The elements that are put in, one behind the other. -/
def foldT (p : TX × Nat → Bool) (L : List (TX × Nat)) : Nat → List ByteArray
  | 0 => []
  | j + 1 => match L[j]? with | some x => if p x = true then intoT (elP x) (foldT p L j) else foldT p L j | none => foldT p L j
theorem foldT_yes {p : TX × Nat → Bool} {L : List (TX × Nat)} {j : Nat} {x : TX × Nat} (h : L[j]? = some x) (hp : p x = true) : foldT p L (j + 1) = intoT (elP x) (foldT p L j) := by
  show (match L[j]? with | some x => _ | none => _) = _
  rw [h]
  simp only [hp, if_true]
theorem foldT_no {p : TX × Nat → Bool} {L : List (TX × Nat)} {j : Nat} {x : TX × Nat} (h : L[j]? = some x) (hp : p x = false) : foldT p L (j + 1) = foldT p L j := by
  show (match L[j]? with | some x => _ | none => _) = _
  rw [h]
  simp [hp]
theorem foldT_len (p : TX × Nat → Bool) (L : List (TX × Nat)) : ∀ j, (foldT p L j).length ≤ j
  | 0 => Nat.le_refl _
  | j + 1 => by
    have ih := foldT_len p L j
    unfold foldT
    split
    · split
      · next x _ _ =>
        have := intoT_len (elP x) (foldT p L j)
        omega
      · omega
    · omega
end Go.Proofs.YtlihcjlonafohaaGreat
