/- Walks: the document's covered, firm, Into, sum. -/
import Derived.Test.YtaldgjcbbjjceaaGVdC
namespace Go.Proofs.Ytaldgjcbbjjceaa
open Go.RowKit Go.Joins
set_option linter.unusedSimpArgs false
set_option linter.unusedVariables false

set_option maxRecDepth 100000 in
set_option maxHeartbeats 8000000 in
theorem covered_any (x : TX × Nat) (vx v : Value) (L : List (TX × Nat)) (w : World) (h : PLV w v L) :
    Calls Try.prog 40 #[.agg (pcs x.1 vx x.2), v] w fun e w' => e = .returned (.bool (covB x L)) ∧ Gr w w' := by
  obtain ⟨W, hW, hg, -, hfx⟩ := pbox w x vx
  have HFX := Lib.hid hfx
  have HG := Lib.hid hg
  obtain ⟨A, c, hvf, hnc, ⟨hcm, -⟩, hat⟩ := h
  subst hvf
  have HAT : Hid (∀ j (hj : j < L.length), ∃ b off, A = some ⟨b, off, none⟩ ∧ PCl w b (off + j * 13) L[j]) := Lib.hid hat
  obtain ⟨n, hn⟩ : ∃ n, n = L.length := ⟨_, rfl⟩
  have HN := Lib.hid hn
  have hnb : n ≤ 9223372036854775807 := by unfold maxLen at hcm; omega
  rw [← hn]
  clear hat hn hcm hnc hg hfx
  go_enter Try.func40, Try.ntmps40
  go_upto_region 1 with (fail)
  rw [← hW]
  clear hW
  go_wp2_with fail
  go_loopw [5] (fun i wr => ∃ j : Nat, j ≤ n ∧ i = .int .i64 j ∧ Hid (Gr W wr ∧ ∀ k (hk : k < L.length), k < j → seenP x L[k] = false)) (fun i _ => n - (intOf i).toNat)
  case atStart => exact ⟨0, Nat.zero_le _, rfl, Lib.hid ⟨Gr.refl _, fun _ _ h => absurd h (Nat.not_lt_zero _)⟩⟩
  case round =>
    obtain ⟨j, hj, rfl, hst⟩ := hrel
    rename World => wr
    by_cases hjn : j < n
    case neg =>
      obtain rfl : j = n := by omega
      have HE : Hid (covB x L = false) := Lib.hid (any_upto fun k hk => hst.out.2 k hk (by rw [HN.out]; exact hk))
      have HGR := Lib.hid hst.out.1
      clear hst
      go_wp2_with fail
      go_ret
      exact ⟨by rw [HE.out]; rfl, HG.out.trans HGR.out⟩
    case pos =>
    have hj0 : (0 : Int) ≤ (j : Int) := Int.natCast_nonneg _
    have hjn1 : (j : Int) < (n : Int) := by omega
    have hjl : j < L.length := by rw [← HN.out]; exact hjn
    obtain ⟨b, off, hA, hpc⟩ := HAT.out j hjl
    subst hA
    obtain ⟨y, hy⟩ : ∃ y, y = L[j] := ⟨_, rfl⟩
    rw [← hy] at hpc
    obtain ⟨vy, hvy, hfy⟩ := hpc.gr HG.out
    have HFY := Lib.hid (hfy.gr hst.out.1)
    have HSE := Lib.hid (fun w1 => seen10_any x y vx vy w1)
    obtain ⟨Ay, cy, hvf⟩ := tov_form hvy
    subst hvf
    have HY := Lib.hid hy
    have HALL := Lib.hid hst.out.2
    have HGR := Lib.hid hst.out.1
    clear hst hpc hvy hfy hy
    go_upto_region 4 with (fail)
    obtain ⟨r, hr⟩ : ∃ r, r = seenP x y := ⟨_, rfl⟩
    rw [← hr] at HSE
    refine qRegion (fun w' => PFix w' w.heap.size 0 x vx ∧ PFix w' b (off + j * 13) y (.slice Ay y.1.ops.length cy) ∧ Gr W w') (by kernel_rfl) (by kernel_rfl) ⟨(HFX.out.gr HGR.out).gr (Gr.refl _).drew, HFY.out.gr (Gr.refl _).drew, HGR.out.drew⟩ ?_
    iterate 5
      refine qTake (by kernel_rfl) ?_
      apply Exists.intro
      refine ⟨fun wq hq => ?_, ?_⟩
      · go_light
        obtain ⟨⟨⟨d0, d1, d2, d3, d4, d5, d6, d7, d8, d9, d10, d11⟩, d12⟩, ⟨⟨f0, f1, f2, f3, f4, f5, f6, f7, f8, f9, f10, f11⟩, f12⟩, -⟩ := hq
        go_simp
        try with_reducible rfl
        done
      try simp only [Act.put, List.setIfInBounds_toArray, List.set_cons_zero, List.set_cons_succ]
    refine qCall (by kernel_rfl) ?_
    apply Exists.intro
    refine ⟨?_, ?_⟩
    · apply Exists.intro
      apply Exists.intro
      refine ⟨fun wq => ?_, fun wq hq => ?_⟩
      · go_light
        go_simp
        exact ⟨rfl, rfl⟩
      · exact (HSE.out wq).mono fun e w'' ⟨he, hg⟩ => ⟨he, hq.1.gr hg, hq.2.1.gr hg, hq.2.2.trans hg⟩
    try simp only [Act.put, List.setIfInBounds_toArray, List.set_cons_zero, List.set_cons_succ]
    refine qNil ?_
    intro w4 hC
    have HG4 := Lib.hid hC.2.2
    clear hC
    cases r with
    | false =>
      have HNX : Hid (∀ k (hk : k < L.length), k < j + 1 → seenP x L[k] = false) := Lib.hid fun k hk hkj => by
        by_cases e : k = j
        · subst e; rw [← HY.out, ← hr]
        · exact HALL.out k hk (by omega)
      clear hr
      go_wp2_with fail
      go_roundw
      case measure => simp [intOf]; omega
      case rel => exact ⟨j + 1, by omega, by go_num, Lib.hid ⟨HG4.out, HNX.out⟩⟩
    | true =>
      have HE : Hid (covB x L = true) := Lib.hid (List.any_eq_true.2 ⟨y, by rw [HY.out]; exact List.getElem_mem hjl, hr.symm⟩)
      clear hr
      go_wp2_with fail
      go_ret
      exact ⟨by rw [HE.out]; rfl, HG.out.trans HG4.out⟩
set_option maxRecDepth 100000 in
set_option maxHeartbeats 8000000 in
theorem firmP_any (el : ByteArray) (va vr : Value) (LA LR : List (TX × Nat)) (w : World) (ha : PLV w va LA) (hr : PLV w vr LR) (hia : InP LA) (hir : InP LR) :
    Calls Try.prog 39 #[.string el, va, vr] w fun e w' => e = .returned (.bool (firB el LA LR)) ∧ Gr w w' := by
  have HAN := Lib.hid (fun (r : TX × Nat) (vx : Value) w1 (g : Gr w w1) (h1 : TOV w1 vx r.1.ops) (h2 : r.2 < r.1.ops.length) => answered_any r vx va LA w1 h1 h2 (ha.gr g) hia)
  obtain ⟨Aa, ca, hva⟩ := plv_form ha
  subst hva
  obtain ⟨A, c, hvf, hnc, ⟨hcm, -⟩, hat⟩ := hr
  subst hvf
  have HAT : Hid (∀ j (hj : j < LR.length), ∃ b off, A = some ⟨b, off, none⟩ ∧ PCl w b (off + j * 13) LR[j]) := Lib.hid hat
  have HIR := Lib.hid hir
  obtain ⟨n, hn⟩ : ∃ n, n = LR.length := ⟨_, rfl⟩
  have HN := Lib.hid hn
  have hnb : n ≤ 9223372036854775807 := by unfold maxLen at hcm; omega
  obtain ⟨na, hna⟩ : ∃ n, n = LA.length := ⟨_, rfl⟩
  rw [← hna] at HAN ⊢
  rw [← hn]
  clear hat hn hcm hnc ha hia hir hna
  go_enter Try.func39, Try.ntmps39
  go_wp2_with fail
  go_loopw [7] (fun i wr => ∃ j : Nat, j ≤ n ∧ i = .int .i64 j ∧ Hid (Gr w wr ∧ ∀ k (hk : k < LR.length), k < j → (eqS (elP LR[k]) el && !ansB LR[k] LA) = false)) (fun i _ => n - (intOf i).toNat)
  case atStart => exact ⟨0, Nat.zero_le _, rfl, Lib.hid ⟨Gr.refl _, fun _ _ h => absurd h (Nat.not_lt_zero _)⟩⟩
  case round =>
    obtain ⟨j, hj, rfl, hst⟩ := hrel
    rename World => wr
    by_cases hjn : j < n
    case neg =>
      obtain rfl : j = n := by omega
      have HE : Hid (firB el LA LR = true) := Lib.hid (by
        unfold firB
        rw [List.all_eq_true]
        intro r hr
        obtain ⟨k, hk, rfl⟩ := List.mem_iff_getElem.1 hr
        rw [hst.out.2 k hk (by rw [HN.out]; exact hk)]
        rfl)
      have HGR := Lib.hid hst.out.1
      clear hst
      go_wp2_with fail
      go_ret
      exact ⟨by rw [HE.out]; rfl, HGR.out⟩
    case pos =>
    have hj0 : (0 : Int) ≤ (j : Int) := Int.natCast_nonneg _
    have hjn1 : (j : Int) < (n : Int) := by omega
    have hjl : j < LR.length := by rw [← HN.out]; exact hjn
    obtain ⟨b, off, hA, hpc⟩ := HAT.out j hjl
    subst hA
    obtain ⟨y, hy⟩ : ∃ y, y = LR[j] := ⟨_, rfl⟩
    rw [← hy] at hpc
    obtain ⟨vy, hvy, hfy⟩ := hpc.gr hst.out.1
    have hyi : y.2 < y.1.ops.length := by rw [hy]; exact HIR.out _ (List.getElem_mem hjl)
    have HOY := Lib.hid (pop_any y vy wr hvy hyi)
    have HA2 := Lib.hid (fun w1 (g : Gr wr w1) => HAN.out y vy w1 (hst.out.1.trans g) (hvy.gr g) hyi)
    obtain ⟨Ay, cy, hvf⟩ := tov_form hvy
    subst hvf
    obtain ⟨yk, hyk⟩ : ∃ a, a = (opAt y.1 y.2).kind := ⟨_, rfl⟩
    obtain ⟨yy, hyy⟩ : ∃ a, a = (opAt y.1 y.2).key := ⟨_, rfl⟩
    obtain ⟨ye, hye⟩ : ∃ a, a = (opAt y.1 y.2).elem := ⟨_, rfl⟩
    obtain ⟨yn, hyn⟩ : ∃ a, a = (opAt y.1 y.2).n := ⟨_, rfl⟩
    unfold opv at HOY
    rw [← hyk, ← hyy, ← hye, ← hyn] at HOY
    have HYE : Hid (elP y = ye) := Lib.hid hye.symm
    have hfl1 := fun W => run_field_e yk yy ye yn W
    obtain ⟨⟨f0, f1, f2, f3, f4, f5, f6, f7, f8, f9, f10, f11⟩, f12⟩ := hfy
    have HFY := Lib.hid (show PFix wr b (off + j * 13) y (.slice Ay y.1.ops.length cy) from ⟨⟨f0, f1, f2, f3, f4, f5, f6, f7, f8, f9, f10, f11⟩, f12⟩)
    have HY := Lib.hid hy
    have HALL := Lib.hid hst.out.2
    have HGR := Lib.hid hst.out.1
    clear hst hpc hvy hyi hy hyk hyy hye hyn
    go_wp2_with fail
    refine HOY.out.mono ?_
    rintro e w4 ⟨rfl, g4⟩
    have HG4 := Lib.hid g4
    clear g4 f0 f1 f2 f3 f4 f5 f6 f7 f8 f9 f10 f11 f12
    obtain ⟨⟨f0, f1, f2, f3, f4, f5, f6, f7, f8, f9, f10, f11⟩, f12⟩ := HFY.out.gr HG4.out
    rcases hel : eqS ye el with _ | _
    · have p1 : (ye.toList == el.toList) = false := hel
      have HNX : Hid (∀ k (hk : k < LR.length), k < j + 1 → (eqS (elP LR[k]) el && !ansB LR[k] LA) = false) := Lib.hid fun k hk hkj => by
        by_cases e : k = j
        · subst e; rw [← HY.out, HYE.out, hel]; rfl
        · exact HALL.out k hk (by omega)
      clear hel
      go_wp2_with fail
      go_roundw
      case measure => simp [intOf]; omega
      case rel => exact ⟨j + 1, by omega, by go_num, Lib.hid ⟨HGR.out.trans HG4.out, HNX.out⟩⟩
    · have p1 : (ye.toList == el.toList) = true := hel
      have HA3 := Lib.hid (HA2.out w4 HG4.out)
      obtain ⟨r, hr⟩ : ∃ r, r = ansB y LA := ⟨_, rfl⟩
      rw [← hr] at HA3
      go_wp2_with fail
      refine HA3.out.mono ?_
      rintro e w5 ⟨rfl, g5⟩
      have HG5 := Lib.hid (HGR.out.trans (HG4.out.trans g5))
      clear g5 f0 f1 f2 f3 f4 f5 f6 f7 f8 f9 f10 f11 f12
      cases r with
      | true =>
        have HNX : Hid (∀ k (hk : k < LR.length), k < j + 1 → (eqS (elP LR[k]) el && !ansB LR[k] LA) = false) := Lib.hid fun k hk hkj => by
          by_cases e : k = j
          · subst e; rw [← HY.out, ← hr, Bool.not_true, Bool.and_false]
          · exact HALL.out k hk (by omega)
        clear hel hr
        go_wp2_with fail
        go_roundw
        case measure => simp [intOf]; omega
        case rel => exact ⟨j + 1, by omega, by go_num, Lib.hid ⟨HG5.out, HNX.out⟩⟩
      | false =>
        have HE : Hid (firB el LA LR = false) := Lib.hid (by
          unfold firB
          rw [List.all_eq_false]
          refine ⟨y, by rw [HY.out]; exact List.getElem_mem hjl, ?_⟩
          rw [HYE.out, hel, ← hr]
          simp)
        clear hel hr
        go_wp2_with fail
        go_ret
        exact ⟨by rw [HE.out]; rfl, HG5.out⟩
end Go.Proofs.Ytaldgjcbbjjceaa
