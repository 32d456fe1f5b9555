/- Walks: the document's answered, covered, firm. -/
import Derived.Test.YtaldgjcbbjjceaaGVdB
namespace Go.Proofs.Ytaldgjcbbjjceaa
open Go.RowKit Go.Joins
set_option linter.unusedSimpArgs false
set_option linter.unusedVariables false

/-- The places are places of operations. -/
def InP (L : List (TX × Nat)) : Prop := ∀ x ∈ L, x.2 < x.1.ops.length
def elP (x : TX × Nat) : ByteArray := (opAt x.1 x.2).elem
/-- Is there one of them, of the same element, that saw it? -/
def ansB (x : TX × Nat) (L : List (TX × Nat)) : Bool := L.any fun y => eqS (elP y) (elP x) && seenP x y
def covB (x : TX × Nat) (L : List (TX × Nat)) : Bool := L.any fun y => seenP x y
def firB (e : ByteArray) (A R : List (TX × Nat)) : Bool := R.all fun r => !(eqS (elP r) e && !ansB r A)
theorem any_upto {α : Type} {p : α → Bool} {L : List α} (h : ∀ j (hj : j < L.length), p L[j] = false) : L.any p = false := by
  rw [List.any_eq_false]
  intro x hx
  obtain ⟨j, hj, rfl⟩ := List.mem_iff_getElem.1 hx
  rw [h j hj]
  simp
set_option maxRecDepth 100000 in
set_option maxHeartbeats 8000000 in
theorem answered_any (x : TX × Nat) (vx v : Value) (L : List (TX × Nat)) (w : World) (hv : TOV w vx x.1.ops) (hx : x.2 < x.1.ops.length) (h : PLV w v L) (hL : InP L) :
    Calls Try.prog 36 #[.agg (pcs x.1 vx x.2), v] w fun e w' => e = .returned (.bool (ansB x L)) ∧ Gr w w' := by
  obtain ⟨W, hW, hg, -, hfx⟩ := pbox w x vx
  have HFX := Lib.hid hfx
  have HG := Lib.hid hg
  have HOX := Lib.hid (fun w1 (g : Gr W w1) => pop_any x vx w1 ((hv.gr hg).gr g) hx)
  obtain ⟨A, c, hvf, hnc, ⟨hcm, -⟩, hat⟩ := h
  subst hvf
  have HAT : Hid (∀ j (hj : j < L.length), ∃ b off, A = some ⟨b, off, none⟩ ∧ PCl w b (off + j * 13) L[j]) := Lib.hid hat
  have HIN := Lib.hid hL
  obtain ⟨xk, hxk⟩ : ∃ a, a = (opAt x.1 x.2).kind := ⟨_, rfl⟩
  obtain ⟨xy, hxy⟩ : ∃ a, a = (opAt x.1 x.2).key := ⟨_, rfl⟩
  obtain ⟨xe, hxe⟩ : ∃ a, a = (opAt x.1 x.2).elem := ⟨_, rfl⟩
  obtain ⟨xn, hxn⟩ : ∃ a, a = (opAt x.1 x.2).n := ⟨_, rfl⟩
  unfold opv at HOX
  rw [← hxk, ← hxy, ← hxe, ← hxn] at HOX
  have HXE : Hid (elP x = xe) := Lib.hid hxe.symm
  obtain ⟨n, hn⟩ : ∃ n, n = L.length := ⟨_, rfl⟩
  have HN := Lib.hid hn
  have hnb : n ≤ 9223372036854775807 := by unfold maxLen at hcm; omega
  rw [← hn]
  clear hat hv hx hL hn hcm hnc hg hfx hxk hxy hxe hxn
  go_enter Try.func36, Try.ntmps36
  go_upto_region 1 with (fail)
  rw [← hW]
  clear hW
  go_wp2_with fail
  go_loopw [5] (fun i wr => ∃ j : Nat, j ≤ n ∧ i = .int .i64 j ∧ Hid (Gr W wr ∧ ∀ k (hk : k < L.length), k < j → (eqS (elP L[k]) (elP x) && seenP x L[k]) = false)) (fun i _ => n - (intOf i).toNat)
  case atStart => exact ⟨0, Nat.zero_le _, rfl, Lib.hid ⟨Gr.refl _, fun _ _ h => absurd h (Nat.not_lt_zero _)⟩⟩
  case round =>
    obtain ⟨j, hj, rfl, hst⟩ := hrel
    rename World => wr
    by_cases hjn : j < n
    case neg =>
      obtain rfl : j = n := by omega
      have HE : Hid (ansB x L = false) := Lib.hid (any_upto fun k hk => hst.out.2 k hk (by rw [HN.out]; exact hk))
      have HGR := Lib.hid hst.out.1
      clear hst
      go_wp2_with fail
      go_ret
      exact ⟨by rw [HE.out]; rfl, HG.out.trans HGR.out⟩
    case pos =>
    have hj0 : (0 : Int) ≤ (j : Int) := Int.natCast_nonneg _
    have hjn1 : (j : Int) < (n : Int) := by omega
    have hjl : j < L.length := by rw [← HN.out]; exact hjn
    obtain ⟨b, off, hA, hpc⟩ := HAT.out j hjl
    subst hA
    obtain ⟨y, hy⟩ : ∃ y, y = L[j] := ⟨_, rfl⟩
    rw [← hy] at hpc
    obtain ⟨vy, hvy, hfy⟩ := hpc.gr HG.out
    have HFY := Lib.hid (hfy.gr hst.out.1)
    have hyi : y.2 < y.1.ops.length := by rw [hy]; exact HIN.out _ (List.getElem_mem hjl)
    have HOY := Lib.hid (fun w1 (g : Gr W w1) => pop_any y vy w1 (hvy.gr g) hyi)
    have HSE := Lib.hid (fun w1 => seen10_any x y vx vy w1)
    obtain ⟨Ay, cy, hvf⟩ := tov_form hvy
    subst hvf
    obtain ⟨yk, hyk⟩ : ∃ a, a = (opAt y.1 y.2).kind := ⟨_, rfl⟩
    obtain ⟨yy, hyy⟩ : ∃ a, a = (opAt y.1 y.2).key := ⟨_, rfl⟩
    obtain ⟨ye, hye⟩ : ∃ a, a = (opAt y.1 y.2).elem := ⟨_, rfl⟩
    obtain ⟨yn, hyn⟩ : ∃ a, a = (opAt y.1 y.2).n := ⟨_, rfl⟩
    unfold opv at HOY
    rw [← hyk, ← hyy, ← hye, ← hyn] at HOY
    have HYE : Hid (elP y = ye) := Lib.hid hye.symm
    have hfl1 := fun W => run_field_e yk yy ye yn W
    have hfl2 := fun W => run_field_e xk xy xe xn W
    have HY := Lib.hid hy
    have HALL := Lib.hid hst.out.2
    have HGR := Lib.hid hst.out.1
    clear hst hpc hvy hfy hyi hy hyk hyy hye hyn
    go_upto_region 4 with (fail)
    rcases hel : eqS ye xe with _ | _
    · have p1 : (ye.toList == xe.toList) = false := hel
      have HNX : Hid (∀ k (hk : k < L.length), k < j + 1 → (eqS (elP L[k]) (elP x) && seenP x L[k]) = false) := Lib.hid fun k hk hkj => by
        by_cases e : k = j
        · subst e; rw [← HY.out, HYE.out, HXE.out, hel]; rfl
        · exact HALL.out k hk (by omega)
      clear hel
      refine qRegion (fun w' => PFix w' w.heap.size 0 x vx ∧ PFix w' b (off + j * 13) y (.slice Ay y.1.ops.length cy) ∧ Gr W w') (by kernel_rfl) (by kernel_rfl) ⟨(HFX.out.gr HGR.out).gr (Gr.refl _).drew, HFY.out.gr (Gr.refl _).drew, HGR.out.drew⟩ ?_
      iterate 4
        refine qTake (by kernel_rfl) ?_
        apply Exists.intro
        refine ⟨fun wq hq => ?_, ?_⟩
        · go_light
          obtain ⟨⟨⟨d0, d1, d2, d3, d4, d5, d6, d7, d8, d9, d10, d11⟩, d12⟩, ⟨⟨f0, f1, f2, f3, f4, f5, f6, f7, f8, f9, f10, f11⟩, f12⟩, -⟩ := hq
          go_simp
          try with_reducible rfl
          done
        try simp only [Act.put, List.setIfInBounds_toArray, List.set_cons_zero, List.set_cons_succ]
      refine qCall (by kernel_rfl) ?_
      apply Exists.intro
      refine ⟨?_, ?_⟩
      · apply Exists.intro
        apply Exists.intro
        refine ⟨fun wq => ?_, fun wq hq => ?_⟩
        · go_light
          go_simp
          exact ⟨rfl, rfl⟩
        · exact (HOY.out wq hq.2.2).mono fun e w'' ⟨he, hg⟩ => ⟨he, hq.1.gr hg, hq.2.1.gr hg, hq.2.2.trans hg⟩
      try simp only [Act.put, List.setIfInBounds_toArray, List.set_cons_zero, List.set_cons_succ]
      iterate 2
        refine qTake (by kernel_rfl) ?_
        apply Exists.intro
        refine ⟨fun wq hq => ?_, ?_⟩
        · go_light
          obtain ⟨⟨⟨d0, d1, d2, d3, d4, d5, d6, d7, d8, d9, d10, d11⟩, d12⟩, ⟨⟨f0, f1, f2, f3, f4, f5, f6, f7, f8, f9, f10, f11⟩, f12⟩, -⟩ := hq
          go_simp
          try with_reducible rfl
          done
        try simp only [Act.put, List.setIfInBounds_toArray, List.set_cons_zero, List.set_cons_succ]
      refine qCall (by kernel_rfl) ?_
      apply Exists.intro
      refine ⟨?_, ?_⟩
      · apply Exists.intro
        apply Exists.intro
        refine ⟨fun wq => ?_, fun wq hq => ?_⟩
        · go_light
          go_simp
          exact ⟨rfl, rfl⟩
        · exact (HOX.out wq hq.2.2).mono fun e w'' ⟨he, hg⟩ => ⟨he, hq.1.gr hg, hq.2.1.gr hg, hq.2.2.trans hg⟩
      try simp only [Act.put, List.setIfInBounds_toArray, List.set_cons_zero, List.set_cons_succ]
      iterate 3
        refine qTake (by kernel_rfl) ?_
        apply Exists.intro
        refine ⟨fun wq hq => ?_, ?_⟩
        · go_light
          obtain ⟨⟨⟨d0, d1, d2, d3, d4, d5, d6, d7, d8, d9, d10, d11⟩, d12⟩, ⟨⟨f0, f1, f2, f3, f4, f5, f6, f7, f8, f9, f10, f11⟩, f12⟩, -⟩ := hq
          go_simp
          try with_reducible rfl
          done
        try simp only [Act.put, List.setIfInBounds_toArray, List.set_cons_zero, List.set_cons_succ]
      iterate 6
        refine qSkip (by kernel_rfl) ?_
        try simp only [Act.put, List.setIfInBounds_toArray, List.set_cons_zero, List.set_cons_succ]
      iterate 1
        refine qTake (by kernel_rfl) ?_
        apply Exists.intro
        refine ⟨fun wq hq => ?_, ?_⟩
        · go_light
          obtain ⟨⟨⟨d0, d1, d2, d3, d4, d5, d6, d7, d8, d9, d10, d11⟩, d12⟩, ⟨⟨f0, f1, f2, f3, f4, f5, f6, f7, f8, f9, f10, f11⟩, f12⟩, -⟩ := hq
          go_simp
          try with_reducible rfl
          done
        try simp only [Act.put, List.setIfInBounds_toArray, List.set_cons_zero, List.set_cons_succ]
      refine qNil ?_
      intro w4 hC
      have HG4 := Lib.hid hC.2.2
      clear hC
      go_wp2_with fail
      go_roundw
      case measure => simp [intOf]; omega
      case rel => exact ⟨j + 1, by omega, by go_num, Lib.hid ⟨HG4.out, HNX.out⟩⟩
    · have p1 : (ye.toList == xe.toList) = true := hel
      obtain ⟨r, hr⟩ : ∃ r, r = seenP x y := ⟨_, rfl⟩
      rw [← hr] at HSE
      cases r with
      | false =>
        have HNX : Hid (∀ k (hk : k < L.length), k < j + 1 → (eqS (elP L[k]) (elP x) && seenP x L[k]) = false) := Lib.hid fun k hk hkj => by
          by_cases e : k = j
          · subst e; rw [← HY.out, ← hr, Bool.and_false]
          · exact HALL.out k hk (by omega)
        clear hel hr
        refine qRegion (fun w' => PFix w' w.heap.size 0 x vx ∧ PFix w' b (off + j * 13) y (.slice Ay y.1.ops.length cy) ∧ Gr W w') (by kernel_rfl) (by kernel_rfl) ⟨(HFX.out.gr HGR.out).gr (Gr.refl _).drew, HFY.out.gr (Gr.refl _).drew, HGR.out.drew⟩ ?_
        iterate 4
          refine qTake (by kernel_rfl) ?_
          apply Exists.intro
          refine ⟨fun wq hq => ?_, ?_⟩
          · go_light
            obtain ⟨⟨⟨d0, d1, d2, d3, d4, d5, d6, d7, d8, d9, d10, d11⟩, d12⟩, ⟨⟨f0, f1, f2, f3, f4, f5, f6, f7, f8, f9, f10, f11⟩, f12⟩, -⟩ := hq
            go_simp
            try with_reducible rfl
            done
          try simp only [Act.put, List.setIfInBounds_toArray, List.set_cons_zero, List.set_cons_succ]
        refine qCall (by kernel_rfl) ?_
        apply Exists.intro
        refine ⟨?_, ?_⟩
        · apply Exists.intro
          apply Exists.intro
          refine ⟨fun wq => ?_, fun wq hq => ?_⟩
          · go_light
            go_simp
            exact ⟨rfl, rfl⟩
          · exact (HOY.out wq hq.2.2).mono fun e w'' ⟨he, hg⟩ => ⟨he, hq.1.gr hg, hq.2.1.gr hg, hq.2.2.trans hg⟩
        try simp only [Act.put, List.setIfInBounds_toArray, List.set_cons_zero, List.set_cons_succ]
        iterate 2
          refine qTake (by kernel_rfl) ?_
          apply Exists.intro
          refine ⟨fun wq hq => ?_, ?_⟩
          · go_light
            obtain ⟨⟨⟨d0, d1, d2, d3, d4, d5, d6, d7, d8, d9, d10, d11⟩, d12⟩, ⟨⟨f0, f1, f2, f3, f4, f5, f6, f7, f8, f9, f10, f11⟩, f12⟩, -⟩ := hq
            go_simp
            try with_reducible rfl
            done
          try simp only [Act.put, List.setIfInBounds_toArray, List.set_cons_zero, List.set_cons_succ]
        refine qCall (by kernel_rfl) ?_
        apply Exists.intro
        refine ⟨?_, ?_⟩
        · apply Exists.intro
          apply Exists.intro
          refine ⟨fun wq => ?_, fun wq hq => ?_⟩
          · go_light
            go_simp
            exact ⟨rfl, rfl⟩
          · exact (HOX.out wq hq.2.2).mono fun e w'' ⟨he, hg⟩ => ⟨he, hq.1.gr hg, hq.2.1.gr hg, hq.2.2.trans hg⟩
        try simp only [Act.put, List.setIfInBounds_toArray, List.set_cons_zero, List.set_cons_succ]
        iterate 8
          refine qTake (by kernel_rfl) ?_
          apply Exists.intro
          refine ⟨fun wq hq => ?_, ?_⟩
          · go_light
            obtain ⟨⟨⟨d0, d1, d2, d3, d4, d5, d6, d7, d8, d9, d10, d11⟩, d12⟩, ⟨⟨f0, f1, f2, f3, f4, f5, f6, f7, f8, f9, f10, f11⟩, f12⟩, -⟩ := hq
            go_simp
            try with_reducible rfl
            done
          try simp only [Act.put, List.setIfInBounds_toArray, List.set_cons_zero, List.set_cons_succ]
        refine qCall (by kernel_rfl) ?_
        apply Exists.intro
        refine ⟨?_, ?_⟩
        · apply Exists.intro
          apply Exists.intro
          refine ⟨fun wq => ?_, fun wq hq => ?_⟩
          · go_light
            go_simp
            exact ⟨rfl, rfl⟩
          · exact (HSE.out wq).mono fun e w'' ⟨he, hg⟩ => ⟨he, hq.1.gr hg, hq.2.1.gr hg, hq.2.2.trans hg⟩
        try simp only [Act.put, List.setIfInBounds_toArray, List.set_cons_zero, List.set_cons_succ]
        iterate 1
          refine qTake (by kernel_rfl) ?_
          apply Exists.intro
          refine ⟨fun wq hq => ?_, ?_⟩
          · go_light
            obtain ⟨⟨⟨d0, d1, d2, d3, d4, d5, d6, d7, d8, d9, d10, d11⟩, d12⟩, ⟨⟨f0, f1, f2, f3, f4, f5, f6, f7, f8, f9, f10, f11⟩, f12⟩, -⟩ := hq
            go_simp
            try with_reducible rfl
            done
          try simp only [Act.put, List.setIfInBounds_toArray, List.set_cons_zero, List.set_cons_succ]
        refine qNil ?_
        intro w4 hC
        have HG4 := Lib.hid hC.2.2
        clear hC
        go_wp2_with fail
        go_roundw
        case measure => simp [intOf]; omega
        case rel => exact ⟨j + 1, by omega, by go_num, Lib.hid ⟨HG4.out, HNX.out⟩⟩
      | true =>
        have HE : Hid (ansB x L = true) := Lib.hid (List.any_eq_true.2 ⟨y, by rw [HY.out]; exact List.getElem_mem hjl, by rw [HYE.out, HXE.out, hel, ← hr]; rfl⟩)
        clear hel hr
        refine qRegion (fun w' => PFix w' w.heap.size 0 x vx ∧ PFix w' b (off + j * 13) y (.slice Ay y.1.ops.length cy) ∧ Gr W w') (by kernel_rfl) (by kernel_rfl) ⟨(HFX.out.gr HGR.out).gr (Gr.refl _).drew, HFY.out.gr (Gr.refl _).drew, HGR.out.drew⟩ ?_
        iterate 4
          refine qTake (by kernel_rfl) ?_
          apply Exists.intro
          refine ⟨fun wq hq => ?_, ?_⟩
          · go_light
            obtain ⟨⟨⟨d0, d1, d2, d3, d4, d5, d6, d7, d8, d9, d10, d11⟩, d12⟩, ⟨⟨f0, f1, f2, f3, f4, f5, f6, f7, f8, f9, f10, f11⟩, f12⟩, -⟩ := hq
            go_simp
            try with_reducible rfl
            done
          try simp only [Act.put, List.setIfInBounds_toArray, List.set_cons_zero, List.set_cons_succ]
        refine qCall (by kernel_rfl) ?_
        apply Exists.intro
        refine ⟨?_, ?_⟩
        · apply Exists.intro
          apply Exists.intro
          refine ⟨fun wq => ?_, fun wq hq => ?_⟩
          · go_light
            go_simp
            exact ⟨rfl, rfl⟩
          · exact (HOY.out wq hq.2.2).mono fun e w'' ⟨he, hg⟩ => ⟨he, hq.1.gr hg, hq.2.1.gr hg, hq.2.2.trans hg⟩
        try simp only [Act.put, List.setIfInBounds_toArray, List.set_cons_zero, List.set_cons_succ]
        iterate 2
          refine qTake (by kernel_rfl) ?_
          apply Exists.intro
          refine ⟨fun wq hq => ?_, ?_⟩
          · go_light
            obtain ⟨⟨⟨d0, d1, d2, d3, d4, d5, d6, d7, d8, d9, d10, d11⟩, d12⟩, ⟨⟨f0, f1, f2, f3, f4, f5, f6, f7, f8, f9, f10, f11⟩, f12⟩, -⟩ := hq
            go_simp
            try with_reducible rfl
            done
          try simp only [Act.put, List.setIfInBounds_toArray, List.set_cons_zero, List.set_cons_succ]
        refine qCall (by kernel_rfl) ?_
        apply Exists.intro
        refine ⟨?_, ?_⟩
        · apply Exists.intro
          apply Exists.intro
          refine ⟨fun wq => ?_, fun wq hq => ?_⟩
          · go_light
            go_simp
            exact ⟨rfl, rfl⟩
          · exact (HOX.out wq hq.2.2).mono fun e w'' ⟨he, hg⟩ => ⟨he, hq.1.gr hg, hq.2.1.gr hg, hq.2.2.trans hg⟩
        try simp only [Act.put, List.setIfInBounds_toArray, List.set_cons_zero, List.set_cons_succ]
        iterate 8
          refine qTake (by kernel_rfl) ?_
          apply Exists.intro
          refine ⟨fun wq hq => ?_, ?_⟩
          · go_light
            obtain ⟨⟨⟨d0, d1, d2, d3, d4, d5, d6, d7, d8, d9, d10, d11⟩, d12⟩, ⟨⟨f0, f1, f2, f3, f4, f5, f6, f7, f8, f9, f10, f11⟩, f12⟩, -⟩ := hq
            go_simp
            try with_reducible rfl
            done
          try simp only [Act.put, List.setIfInBounds_toArray, List.set_cons_zero, List.set_cons_succ]
        refine qCall (by kernel_rfl) ?_
        apply Exists.intro
        refine ⟨?_, ?_⟩
        · apply Exists.intro
          apply Exists.intro
          refine ⟨fun wq => ?_, fun wq hq => ?_⟩
          · go_light
            go_simp
            exact ⟨rfl, rfl⟩
          · exact (HSE.out wq).mono fun e w'' ⟨he, hg⟩ => ⟨he, hq.1.gr hg, hq.2.1.gr hg, hq.2.2.trans hg⟩
        try simp only [Act.put, List.setIfInBounds_toArray, List.set_cons_zero, List.set_cons_succ]
        iterate 1
          refine qTake (by kernel_rfl) ?_
          apply Exists.intro
          refine ⟨fun wq hq => ?_, ?_⟩
          · go_light
            obtain ⟨⟨⟨d0, d1, d2, d3, d4, d5, d6, d7, d8, d9, d10, d11⟩, d12⟩, ⟨⟨f0, f1, f2, f3, f4, f5, f6, f7, f8, f9, f10, f11⟩, f12⟩, -⟩ := hq
            go_simp
            try with_reducible rfl
            done
          try simp only [Act.put, List.setIfInBounds_toArray, List.set_cons_zero, List.set_cons_succ]
        refine qNil ?_
        intro w4 hC
        have HG4 := Lib.hid hC.2.2
        clear hC
        go_wp2_with fail
        go_ret
        exact ⟨by rw [HE.out]; rfl, HG.out.trans HG4.out⟩
end Go.Proofs.Ytaldgjcbbjjceaa
