/- Walks: the document's sum. -/
import Derived.Test.YtaldgjcbbjjceaaGVdE
namespace Go.Proofs.Ytaldgjcbbjjceaa
open Go.RowKit Go.Joins
set_option linter.unusedSimpArgs false
set_option linter.unusedVariables false

def sumP (L : List (TX × Nat)) : Nat → Int
  | 0 => 0
  | j + 1 => sumP L j + (match L[j]? with | some x => (opAt x.1 x.2).n | none => 0)
theorem sumP_next {L : List (TX × Nat)} {j : Nat} (h : j < L.length) : sumP L (j + 1) = sumP L j + (opAt L[j].1 L[j].2).n := by
  show _ + _ = _
  rw [List.getElem?_eq_getElem h]
def sumAll (L : List (TX × Nat)) : Int := sumP L L.length
theorem plTx_mem {key : ByteArray} {kind : Int} {t : TX} : ∀ {j : Nat} {x : TX × Nat}, x ∈ plTx key kind t j ↔ x.1 = t ∧ x.2 < j ∧ ∃ o, t.ops[x.2]? = some o ∧ isPl key kind o = true
  | 0, x => by
    constructor
    · intro h; cases h
    · intro h; exact absurd h.2.1 (Nat.not_lt_zero _)
  | j + 1, x => by
    show x ∈ plTx key kind t j ++ _ ↔ _
    rw [List.mem_append, plTx_mem]
    constructor
    · rintro (⟨h1, h2, h3⟩ | h)
      · exact ⟨h1, by omega, h3⟩
      · split at h
        · next o ho =>
          split at h
          · next hk =>
            obtain rfl := List.mem_singleton.1 h
            exact ⟨rfl, Nat.lt_succ_self _, o, ho, hk⟩
          · cases h
        · cases h
    · rintro ⟨h1, h2, o, h3, h4⟩
      rcases Nat.lt_or_ge x.2 j with c | c
      · exact .inl ⟨h1, c, o, h3, h4⟩
      · have e : x.2 = j := by omega
        refine .inr ?_
        rw [← e, h3]
        simp only [h4, if_true]
        exact List.mem_singleton.2 (by rw [← h1])
theorem plTo_mem {key : ByteArray} {kind : Int} {L : List TX} : ∀ {k : Nat} {x : TX × Nat}, x ∈ plTo key kind L k ↔ (∃ i, i < k ∧ L[i]? = some x.1) ∧ ∃ o, x.1.ops[x.2]? = some o ∧ isPl key kind o = true
  | 0, x => by
    constructor
    · intro h; cases h
    · rintro ⟨⟨i, hi, _⟩, _⟩; exact absurd hi (Nat.not_lt_zero _)
  | k + 1, x => by
    show x ∈ plTo key kind L k ++ _ ↔ _
    rw [List.mem_append, plTo_mem]
    constructor
    · rintro (⟨⟨i, hi, h1⟩, h2⟩ | h)
      · exact ⟨⟨i, by omega, h1⟩, h2⟩
      · split at h
        · next t ht =>
          obtain ⟨h1, h2, h3⟩ := plTx_mem.1 h
          exact ⟨⟨k, Nat.lt_succ_self _, by rw [h1]; exact ht⟩, by rw [h1]; exact h3⟩
        · cases h
    · rintro ⟨⟨i, hi, h1⟩, o, h2, h3⟩
      rcases Nat.lt_or_ge i k with c | c
      · exact .inl ⟨⟨i, c, h1⟩, o, h2, h3⟩
      · have e : i = k := by omega
        refine .inr ?_
        rw [← e, h1]
        exact plTx_mem.2 ⟨rfl, (List.getElem?_eq_some_iff.1 h2).1, o, h2, h3⟩
theorem plL_mem {key : ByteArray} {kind : Int} {L : List TX} {x : TX × Nat} : x ∈ plL key kind L ↔ x.1 ∈ L ∧ ∃ o, x.1.ops[x.2]? = some o ∧ isPl key kind o = true := by
  unfold plL
  rw [plTo_mem]
  constructor
  · rintro ⟨⟨i, hi, h1⟩, h2⟩
    exact ⟨List.mem_of_getElem? h1, h2⟩
  · rintro ⟨h1, h2⟩
    obtain ⟨i, hi⟩ := List.mem_iff_getElem?.1 h1
    exact ⟨⟨i, (List.getElem?_eq_some_iff.1 hi).1, hi⟩, h2⟩
theorem plL_in (key : ByteArray) (kind : Int) (L : List TX) : InP (plL key kind L) := fun x hx => by
  obtain ⟨-, o, h, -⟩ := plL_mem.1 hx
  exact (List.getElem?_eq_some_iff.1 h).1
set_option maxRecDepth 100000 in
set_option maxHeartbeats 8000000 in
theorem rsum_any (v : Value) (L : List TX) (key : ByteArray) (w : World) (h : XV w v L) (hop : ∀ t ∈ L, t.ops.length ≤ 8) (hL : L.length ≤ 65536) :
    Calls Try.prog 35 #[v, .string key] w fun e w' => e = .returned (.int .i64 (wrap64 (sumAll (plL key 1 L) - sumAll (plL key 2 L)))) ∧ Gr w w' := by
  have HP1 := Lib.hid (places_any v L key 1 w h hop hL)
  have HP2 := Lib.hid (fun w1 (g : Gr w w1) => places_any v L key 2 w1 (h.gr g) hop hL)
  have HI1 := Lib.hid (plL_in key 1 L)
  have HI2 := Lib.hid (plL_in key 2 L)
  obtain ⟨A, c, hvf, -⟩ := h
  subst hvf
  obtain ⟨D1, hD1⟩ : ∃ x, x = plL key 1 L := ⟨_, rfl⟩
  obtain ⟨D2, hD2⟩ : ∃ x, x = plL key 2 L := ⟨_, rfl⟩
  rw [← hD1] at HP1 HI1 ⊢
  rw [← hD2] at HP2 HI2 ⊢
  obtain ⟨n0, hn0⟩ : ∃ n, n = L.length := ⟨_, rfl⟩
  rw [← hn0] at HP1 HP2 ⊢
  have hw0 : Hid ((0 : Int) = wrap64 (sumP D1 0)) := Lib.hid (by show (0 : Int) = wrap64 0; unfold wrap64; omega)
  clear hop hL hn0 hD1 hD2
  go_enter Try.func35, Try.ntmps35
  go_wp2_with fail
  refine HP1.out.mono ?_
  rintro e w1 ⟨s1, rfl, hp1, g1⟩
  obtain ⟨A1, c1, hs1, hnc1, ⟨hcm1, -⟩, hat1⟩ := hp1
  subst hs1
  have HAT1 : Hid (∀ j (hj : j < D1.length), ∃ b off, A1 = some ⟨b, off, none⟩ ∧ PCl w1 b (off + j * 13) D1[j]) := Lib.hid hat1
  obtain ⟨n1, hn1⟩ : ∃ n, n = D1.length := ⟨_, rfl⟩
  rw [← hn1]
  have HN1 := Lib.hid hn1
  have hnb1 : n1 ≤ 9223372036854775807 := by unfold maxLen at hcm1; omega
  have HG1 : Hid (Gr w w1) := Lib.hid (g1)
  clear hat1 hn1 hnc1 hcm1 g1
  go_wp2_with fail
  go_loopw [5, 14] (fun s i wr => ∃ j : Nat, j ≤ n1 ∧ s = .int .i64 (wrap64 (sumP D1 j)) ∧ i = .int .i64 j ∧ Hid (Gr w1 wr)) (fun _ i _ => n1 - (intOf i).toNat)
  case atStart => exact ⟨0, Nat.zero_le _, by rw [hw0.out], rfl, Lib.hid (Gr.refl _)⟩
  case round =>
    obtain ⟨j, hj, rfl, rfl, hst⟩ := hrel
    rename World => wr
    by_cases hjn : j < n1
    case pos =>
      have hj0 : (0 : Int) ≤ (j : Int) := Int.natCast_nonneg _
      have hjn1 : (j : Int) < (n1 : Int) := by omega
      have hjl : j < D1.length := by rw [← HN1.out]; exact hjn
      obtain ⟨b, off, hA, hpc⟩ := HAT1.out j hjl
      subst hA
      obtain ⟨y, hy⟩ : ∃ y, y = D1[j] := ⟨_, rfl⟩
      rw [← hy] at hpc
      obtain ⟨vy, hvy, hfy⟩ := hpc.gr hst.out
      have hyi : y.2 < y.1.ops.length := by rw [hy]; exact HI1.out _ (List.getElem_mem hjl)
      obtain ⟨Ay, cy, hvf⟩ := tov_form hvy
      subst hvf
      obtain ⟨W5, hW5, g5, -, hf5⟩ := pbox wr y (.slice Ay y.1.ops.length cy)
      have HOY := Lib.hid (fun w1 (g : Gr W5 w1) => pop_any y _ w1 ((hvy.gr g5).gr g) hyi)
      obtain ⟨yk, hyk⟩ : ∃ a, a = (opAt y.1 y.2).kind := ⟨_, rfl⟩
      obtain ⟨yy, hyy⟩ : ∃ a, a = (opAt y.1 y.2).key := ⟨_, rfl⟩
      obtain ⟨ye, hye⟩ : ∃ a, a = (opAt y.1 y.2).elem := ⟨_, rfl⟩
      obtain ⟨yn, hyn⟩ : ∃ a, a = (opAt y.1 y.2).n := ⟨_, rfl⟩
      unfold opv at HOY
      rw [← hyk, ← hyy, ← hye, ← hyn] at HOY
      have hfl1 := fun W => run_field_n yk yy ye yn W
      obtain ⟨x, hx⟩ : ∃ x, x = sumP D1 j := ⟨_, rfl⟩
      have HW : Hid (wrap64 (wrap64 x + yn) = wrap64 (sumP D1 (j + 1))) := Lib.hid (by rw [wrap_add, hx, sumP_next hjl, ← hy, ← hyn] <;> (congr 1; omega))
      rw [← hx]
      have HG5 := Lib.hid (hst.out.trans g5)
      obtain ⟨⟨f0, f1, f2, f3, f4, f5, f6, f7, f8, f9, f10, f11⟩, f12⟩ := hfy
      obtain ⟨⟨d0, d1, d2, d3, d4, d5, d6, d7, d8, d9, d10, d11⟩, d12⟩ := hf5
      clear hst hpc hvy hyi hy hyk hyy hye hyn hx g5
      go_upto_region 5 with (fail)
      rw [← hW5]
      clear hW5 f0 f1 f2 f3 f4 f5 f6 f7 f8 f9 f10 f11 f12
      go_wp2_with fail
      refine (HOY.out _ (Gr.refl _)).mono ?_
      rintro e w6 ⟨rfl, g6⟩
      have HG6 := Lib.hid (HG5.out.trans g6)
      clear g6 d0 d1 d2 d3 d4 d5 d6 d7 d8 d9 d10 d11 d12
      go_wp2_with fail
      go_roundw
      case measure => simp [intOf]; omega
      case rel => exact ⟨j + 1, by omega, by rw [← HW.out], by go_num, HG6⟩
    case neg =>
      obtain rfl : j = n1 := by omega
      have HGW := Lib.hid (HG1.out.trans hst.out)
      obtain ⟨x1, hx1⟩ : ∃ x, x = sumP D1 j := ⟨_, rfl⟩
      have HX1 : Hid (x1 = sumP D1 j) := Lib.hid hx1
      have HB2 : Hid (wrap64 x1 = wrap64 (x1 - sumP D2 0)) := Lib.hid (by show _ = wrap64 (x1 - 0); rw [Int.sub_zero])
      rw [← hx1]
      clear hst hx1
      go_wp2_with fail
      refine (HP2.out _ HGW.out).mono ?_
      rintro e w2 ⟨s2, rfl, hp2, g2⟩
      obtain ⟨A2, c2, hs2, hnc2, ⟨hcm2, -⟩, hat2⟩ := hp2
      subst hs2
      have HAT2 : Hid (∀ j (hj : j < D2.length), ∃ b off, A2 = some ⟨b, off, none⟩ ∧ PCl w2 b (off + j * 13) D2[j]) := Lib.hid hat2
      obtain ⟨n2, hn2⟩ : ∃ n, n = D2.length := ⟨_, rfl⟩
      rw [← hn2]
      have HN2 := Lib.hid hn2
      have hnb2 : n2 ≤ 9223372036854775807 := by unfold maxLen at hcm2; omega
      have HG2 : Hid (Gr w w2) := Lib.hid (HGW.out.trans g2)
      clear hat2 hn2 hnc2 hcm2 g2
      go_wp2_with fail
      go_loopw [5, 28] (fun s i wr => ∃ j : Nat, j ≤ n2 ∧ s = .int .i64 (wrap64 (x1 - sumP D2 j)) ∧ i = .int .i64 j ∧ Hid (Gr w2 wr)) (fun _ i _ => n2 - (intOf i).toNat)
      case atStart => exact ⟨0, Nat.zero_le _, by rw [HB2.out], rfl, Lib.hid (Gr.refl _)⟩
      case round =>
        obtain ⟨j, hj, rfl, rfl, hst⟩ := hrel
        rename World => wr
        by_cases hjn : j < n2
        case pos =>
          have hj0 : (0 : Int) ≤ (j : Int) := Int.natCast_nonneg _
          have hjn1 : (j : Int) < (n2 : Int) := by omega
          have hjl : j < D2.length := by rw [← HN2.out]; exact hjn
          obtain ⟨b, off, hA, hpc⟩ := HAT2.out j hjl
          subst hA
          obtain ⟨y, hy⟩ : ∃ y, y = D2[j] := ⟨_, rfl⟩
          rw [← hy] at hpc
          obtain ⟨vy, hvy, hfy⟩ := hpc.gr hst.out
          have hyi : y.2 < y.1.ops.length := by rw [hy]; exact HI2.out _ (List.getElem_mem hjl)
          obtain ⟨Ay, cy, hvf⟩ := tov_form hvy
          subst hvf
          obtain ⟨W5, hW5, g5, -, hf5⟩ := pbox wr y (.slice Ay y.1.ops.length cy)
          have HOY := Lib.hid (fun w1 (g : Gr W5 w1) => pop_any y _ w1 ((hvy.gr g5).gr g) hyi)
          obtain ⟨yk, hyk⟩ : ∃ a, a = (opAt y.1 y.2).kind := ⟨_, rfl⟩
          obtain ⟨yy, hyy⟩ : ∃ a, a = (opAt y.1 y.2).key := ⟨_, rfl⟩
          obtain ⟨ye, hye⟩ : ∃ a, a = (opAt y.1 y.2).elem := ⟨_, rfl⟩
          obtain ⟨yn, hyn⟩ : ∃ a, a = (opAt y.1 y.2).n := ⟨_, rfl⟩
          unfold opv at HOY
          rw [← hyk, ← hyy, ← hye, ← hyn] at HOY
          have hfl1 := fun W => run_field_n yk yy ye yn W
          obtain ⟨x, hx⟩ : ∃ x, x = x1 - sumP D2 j := ⟨_, rfl⟩
          have HW : Hid (wrap64 (wrap64 x - yn) = wrap64 (x1 - sumP D2 (j + 1))) := Lib.hid (by rw [wrap_sub, hx, sumP_next hjl, ← hy, ← hyn] <;> (congr 1; omega))
          rw [← hx]
          have HG5 := Lib.hid (hst.out.trans g5)
          obtain ⟨⟨f0, f1, f2, f3, f4, f5, f6, f7, f8, f9, f10, f11⟩, f12⟩ := hfy
          obtain ⟨⟨d0, d1, d2, d3, d4, d5, d6, d7, d8, d9, d10, d11⟩, d12⟩ := hf5
          clear hst hpc hvy hyi hy hyk hyy hye hyn hx g5
          go_upto_region 10 with (fail)
          rw [← hW5]
          clear hW5 f0 f1 f2 f3 f4 f5 f6 f7 f8 f9 f10 f11 f12
          go_wp2_with fail
          refine (HOY.out _ (Gr.refl _)).mono ?_
          rintro e w6 ⟨rfl, g6⟩
          have HG6 := Lib.hid (HG5.out.trans g6)
          clear g6 d0 d1 d2 d3 d4 d5 d6 d7 d8 d9 d10 d11 d12
          go_wp2_with fail
          go_roundw
          case measure => simp [intOf]; omega
          case rel => exact ⟨j + 1, by omega, by rw [← HW.out], by go_num, HG6⟩
        case neg =>
          obtain rfl : j = n2 := by omega
          have HE : Hid (wrap64 (x1 - sumP D2 j) = wrap64 (sumAll D1 - sumAll D2)) := Lib.hid (by rw [HX1.out]; unfold sumAll; rw [← HN1.out, ← HN2.out])
          have HGR := Lib.hid (HG2.out.trans hst.out)
          clear hst
          rw [HE.out]
          go_wp2_with fail
          go_ret
          exact ⟨rfl, HGR.out⟩
end Go.Proofs.Ytaldgjcbbjjceaa
