/- Walks: the document's covered, firm, Into, sum. Walks: the document's Into. -/
import Derived.Test.YtlihcjlonafohaaGreatZf28
namespace Go.Proofs.YtlihcjlonafohaaGreat
open Go.RowKit Go.Joins
set_option linter.unusedSimpArgs false
set_option linter.unusedVariables false

set_option maxRecDepth 100000 in
set_option maxHeartbeats 8000000 in
theorem covered_any (x : TX × Nat) (vx v : Value) (L : List (TX × Nat)) (w : World) (h : PLV w v L) :
    Calls Tryz.prog 61 #[.agg (pcs x.1 vx x.2), v] w fun e w' => e = .returned (.bool (covB x L)) ∧ Gr w w' := by
  obtain ⟨W, hW, hg, -, hfx⟩ := pbox w x vx
  have HFX := Lib.hid hfx
  have HG := Lib.hid hg
  obtain ⟨A, c, hvf, hnc, ⟨hcm, -⟩, hat⟩ := h
  subst hvf
  have HAT : Hid (∀ j (hj : j < L.length), ∃ b off, A = some ⟨b, off, none⟩ ∧ PCl w b (off + j * 13) L[j]) := Lib.hid hat
  obtain ⟨n, hn⟩ : ∃ n, n = L.length := ⟨_, rfl⟩
  have HN := Lib.hid hn
  have hnb : n ≤ 9223372036854775807 := by unfold maxLen at hcm; omega
  rw [← hn]
  clear hat hn hcm hnc hg hfx
  go_enter Tryz.func61, Tryz.ntmps61
  go_upto_region 1 with (fail)
  rw [← hW]
  clear hW
  go_wp2_with fail
  go_loopw [5] (fun i wr => ∃ j : Nat, j ≤ n ∧ i = .int .i64 j ∧ Hid (Gr W wr ∧ ∀ k (hk : k < L.length), k < j → seenP x L[k] = false)) (fun i _ => n - (intOf i).toNat)
  case atStart => exact ⟨0, Nat.zero_le _, rfl, Lib.hid ⟨Gr.refl _, fun _ _ h => absurd h (Nat.not_lt_zero _)⟩⟩
  case round =>
    obtain ⟨j, hj, rfl, hst⟩ := hrel
    rename World => wr
    by_cases hjn : j < n
    case neg =>
      obtain rfl : j = n := by omega
      have HE : Hid (covB x L = false) := Lib.hid (any_upto fun k hk => hst.out.2 k hk (by rw [HN.out]; exact hk))
      have HGR := Lib.hid hst.out.1
      clear hst
      go_wp2_with fail
      go_ret
      exact ⟨by rw [HE.out]; rfl, HG.out.trans HGR.out⟩
    case pos =>
    have hj0 : (0 : Int) ≤ (j : Int) := Int.natCast_nonneg _
    have hjn1 : (j : Int) < (n : Int) := by omega
    have hjl : j < L.length := by rw [← HN.out]; exact hjn
    obtain ⟨b, off, hA, hpc⟩ := HAT.out j hjl
    subst hA
    obtain ⟨y, hy⟩ : ∃ y, y = L[j] := ⟨_, rfl⟩
    rw [← hy] at hpc
    obtain ⟨vy, hvy, hfy⟩ := hpc.gr HG.out
    have HFY := Lib.hid (hfy.gr hst.out.1)
    have HSE := Lib.hid (fun w1 => seen10_any x y vx vy w1)
    obtain ⟨Ay, cy, hvf⟩ := tov_form hvy
    subst hvf
    have HY := Lib.hid hy
    have HALL := Lib.hid hst.out.2
    have HGR := Lib.hid hst.out.1
    clear hst hpc hvy hfy hy
    go_upto_region 4 with (fail)
    obtain ⟨r, hr⟩ : ∃ r, r = seenP x y := ⟨_, rfl⟩
    rw [← hr] at HSE
    refine qRegion (fun w' => PFix w' w.heap.size 0 x vx ∧ PFix w' b (off + j * 13) y (.slice Ay y.1.ops.length cy) ∧ Gr W w') (by kernel_rfl) (by kernel_rfl) ⟨(HFX.out.gr HGR.out).gr (Gr.refl _).drew, HFY.out.gr (Gr.refl _).drew, HGR.out.drew⟩ ?_
    iterate 5
      refine qTake (by kernel_rfl) ?_
      apply Exists.intro
      refine ⟨fun wq hq => ?_, ?_⟩
      · go_light
        obtain ⟨⟨⟨d0, d1, d2, d3, d4, d5, d6, d7, d8, d9, d10, d11⟩, d12⟩, ⟨⟨f0, f1, f2, f3, f4, f5, f6, f7, f8, f9, f10, f11⟩, f12⟩, -⟩ := hq
        go_simp
        try with_reducible rfl
        done
      try simp only [Act.put, List.setIfInBounds_toArray, List.set_cons_zero, List.set_cons_succ]
    refine qCall (by kernel_rfl) ?_
    apply Exists.intro
    refine ⟨?_, ?_⟩
    · apply Exists.intro
      apply Exists.intro
      refine ⟨fun wq => ?_, fun wq hq => ?_⟩
      · go_light
        go_simp
        exact ⟨rfl, rfl⟩
      · exact (HSE.out wq).mono fun e w'' ⟨he, hg⟩ => ⟨he, hq.1.gr hg, hq.2.1.gr hg, hq.2.2.trans hg⟩
    try simp only [Act.put, List.setIfInBounds_toArray, List.set_cons_zero, List.set_cons_succ]
    refine qNil ?_
    intro w4 hC
    have HG4 := Lib.hid hC.2.2
    clear hC
    cases r with
    | false =>
      have HNX : Hid (∀ k (hk : k < L.length), k < j + 1 → seenP x L[k] = false) := Lib.hid fun k hk hkj => by
        by_cases e : k = j
        · subst e; rw [← HY.out, ← hr]
        · exact HALL.out k hk (by omega)
      clear hr
      go_wp2_with fail
      go_roundw
      case measure => simp [intOf]; omega
      case rel => exact ⟨j + 1, by omega, by go_num, Lib.hid ⟨HG4.out, HNX.out⟩⟩
    | true =>
      have HE : Hid (covB x L = true) := Lib.hid (List.any_eq_true.2 ⟨y, by rw [HY.out]; exact List.getElem_mem hjl, hr.symm⟩)
      clear hr
      go_wp2_with fail
      go_ret
      exact ⟨by rw [HE.out]; rfl, HG.out.trans HG4.out⟩
set_option maxRecDepth 100000 in
set_option maxHeartbeats 8000000 in
theorem firmP_any (el : ByteArray) (va vr : Value) (LA LR : List (TX × Nat)) (w : World) (ha : PLV w va LA) (hr : PLV w vr LR) (hia : InP LA) (hir : InP LR) :
    Calls Tryz.prog 60 #[.string el, va, vr] w fun e w' => e = .returned (.bool (firB el LA LR)) ∧ Gr w w' := by
  have HAN := Lib.hid (fun (r : TX × Nat) (vx : Value) w1 (g : Gr w w1) (h1 : TOV w1 vx r.1.ops) (h2 : r.2 < r.1.ops.length) => answered_any r vx va LA w1 h1 h2 (ha.gr g) hia)
  obtain ⟨Aa, ca, hva⟩ := plv_form ha
  subst hva
  obtain ⟨A, c, hvf, hnc, ⟨hcm, -⟩, hat⟩ := hr
  subst hvf
  have HAT : Hid (∀ j (hj : j < LR.length), ∃ b off, A = some ⟨b, off, none⟩ ∧ PCl w b (off + j * 13) LR[j]) := Lib.hid hat
  have HIR := Lib.hid hir
  obtain ⟨n, hn⟩ : ∃ n, n = LR.length := ⟨_, rfl⟩
  have HN := Lib.hid hn
  have hnb : n ≤ 9223372036854775807 := by unfold maxLen at hcm; omega
  obtain ⟨na, hna⟩ : ∃ n, n = LA.length := ⟨_, rfl⟩
  rw [← hna] at HAN ⊢
  rw [← hn]
  clear hat hn hcm hnc ha hia hir hna
  go_enter Tryz.func60, Tryz.ntmps60
  go_wp2_with fail
  go_loopw [7] (fun i wr => ∃ j : Nat, j ≤ n ∧ i = .int .i64 j ∧ Hid (Gr w wr ∧ ∀ k (hk : k < LR.length), k < j → (eqS (elP LR[k]) el && !ansB LR[k] LA) = false)) (fun i _ => n - (intOf i).toNat)
  case atStart => exact ⟨0, Nat.zero_le _, rfl, Lib.hid ⟨Gr.refl _, fun _ _ h => absurd h (Nat.not_lt_zero _)⟩⟩
  case round =>
    obtain ⟨j, hj, rfl, hst⟩ := hrel
    rename World => wr
    by_cases hjn : j < n
    case neg =>
      obtain rfl : j = n := by omega
      have HE : Hid (firB el LA LR = true) := Lib.hid (by
        unfold firB
        rw [List.all_eq_true]
        intro r hr
        obtain ⟨k, hk, rfl⟩ := List.mem_iff_getElem.1 hr
        rw [hst.out.2 k hk (by rw [HN.out]; exact hk)]
        rfl)
      have HGR := Lib.hid hst.out.1
      clear hst
      go_wp2_with fail
      go_ret
      exact ⟨by rw [HE.out]; rfl, HGR.out⟩
    case pos =>
    have hj0 : (0 : Int) ≤ (j : Int) := Int.natCast_nonneg _
    have hjn1 : (j : Int) < (n : Int) := by omega
    have hjl : j < LR.length := by rw [← HN.out]; exact hjn
    obtain ⟨b, off, hA, hpc⟩ := HAT.out j hjl
    subst hA
    obtain ⟨y, hy⟩ : ∃ y, y = LR[j] := ⟨_, rfl⟩
    rw [← hy] at hpc
    obtain ⟨vy, hvy, hfy⟩ := hpc.gr hst.out.1
    have hyi : y.2 < y.1.ops.length := by rw [hy]; exact HIR.out _ (List.getElem_mem hjl)
    have HOY := Lib.hid (pop_any y vy wr hvy hyi)
    have HA2 := Lib.hid (fun w1 (g : Gr wr w1) => HAN.out y vy w1 (hst.out.1.trans g) (hvy.gr g) hyi)
    obtain ⟨Ay, cy, hvf⟩ := tov_form hvy
    subst hvf
    obtain ⟨yk, hyk⟩ : ∃ a, a = (opAt y.1 y.2).kind := ⟨_, rfl⟩
    obtain ⟨yy, hyy⟩ : ∃ a, a = (opAt y.1 y.2).key := ⟨_, rfl⟩
    obtain ⟨ye, hye⟩ : ∃ a, a = (opAt y.1 y.2).elem := ⟨_, rfl⟩
    obtain ⟨yn, hyn⟩ : ∃ a, a = (opAt y.1 y.2).n := ⟨_, rfl⟩
    unfold opv at HOY
    rw [← hyk, ← hyy, ← hye, ← hyn] at HOY
    have HYE : Hid (elP y = ye) := Lib.hid hye.symm
    have hfl1 := fun W => run_field_e yk yy ye yn W
    obtain ⟨⟨f0, f1, f2, f3, f4, f5, f6, f7, f8, f9, f10, f11⟩, f12⟩ := hfy
    have HFY := Lib.hid (show PFix wr b (off + j * 13) y (.slice Ay y.1.ops.length cy) from ⟨⟨f0, f1, f2, f3, f4, f5, f6, f7, f8, f9, f10, f11⟩, f12⟩)
    have HY := Lib.hid hy
    have HALL := Lib.hid hst.out.2
    have HGR := Lib.hid hst.out.1
    clear hst hpc hvy hyi hy hyk hyy hye hyn
    go_wp2_with fail
    refine HOY.out.mono ?_
    rintro e w4 ⟨rfl, g4⟩
    have HG4 := Lib.hid g4
    clear g4 f0 f1 f2 f3 f4 f5 f6 f7 f8 f9 f10 f11 f12
    obtain ⟨⟨f0, f1, f2, f3, f4, f5, f6, f7, f8, f9, f10, f11⟩, f12⟩ := HFY.out.gr HG4.out
    rcases hel : eqS ye el with _ | _
    · have p1 : (ye.toList == el.toList) = false := hel
      have HNX : Hid (∀ k (hk : k < LR.length), k < j + 1 → (eqS (elP LR[k]) el && !ansB LR[k] LA) = false) := Lib.hid fun k hk hkj => by
        by_cases e : k = j
        · subst e; rw [← HY.out, HYE.out, hel]; rfl
        · exact HALL.out k hk (by omega)
      clear hel
      go_wp2_with fail
      go_roundw
      case measure => simp [intOf]; omega
      case rel => exact ⟨j + 1, by omega, by go_num, Lib.hid ⟨HGR.out.trans HG4.out, HNX.out⟩⟩
    · have p1 : (ye.toList == el.toList) = true := hel
      have HA3 := Lib.hid (HA2.out w4 HG4.out)
      obtain ⟨r, hr⟩ : ∃ r, r = ansB y LA := ⟨_, rfl⟩
      rw [← hr] at HA3
      go_wp2_with fail
      refine HA3.out.mono ?_
      rintro e w5 ⟨rfl, g5⟩
      have HG5 := Lib.hid (HGR.out.trans (HG4.out.trans g5))
      clear g5 f0 f1 f2 f3 f4 f5 f6 f7 f8 f9 f10 f11 f12
      cases r with
      | true =>
        have HNX : Hid (∀ k (hk : k < LR.length), k < j + 1 → (eqS (elP LR[k]) el && !ansB LR[k] LA) = false) := Lib.hid fun k hk hkj => by
          by_cases e : k = j
          · subst e; rw [← HY.out, ← hr, Bool.not_true, Bool.and_false]
          · exact HALL.out k hk (by omega)
        clear hel hr
        go_wp2_with fail
        go_roundw
        case measure => simp [intOf]; omega
        case rel => exact ⟨j + 1, by omega, by go_num, Lib.hid ⟨HG5.out, HNX.out⟩⟩
      | false =>
        have HE : Hid (firB el LA LR = false) := Lib.hid (by
          unfold firB
          rw [List.all_eq_false]
          refine ⟨y, by rw [HY.out]; exact List.getElem_mem hjl, ?_⟩
          rw [HYE.out, hel, ← hr]
          simp)
        clear hel hr
        go_wp2_with fail
        go_ret
        exact ⟨by rw [HE.out]; rfl, HG5.out⟩
end Go.Proofs.YtlihcjlonafohaaGreat
namespace Go.Proofs.YtlihcjlonafohaaGreat
open Go.RowKit Go.Joins
set_option linter.unusedSimpArgs false
set_option linter.unusedVariables false

theorem SV.takeQ {w : World} {n c k : Nat} {A : Option Addr} {L : List ByteArray} (h : SV w (.slice A n c) L) (hk : k ≤ L.length) : SV w (.slice A k c) (L.take k) := by
  obtain ⟨A', c', hv, h1, h2, h3⟩ := h
  injection hv with e1 e2 e3
  subst e1 e3
  refine ⟨A, c, by rw [List.length_take, Nat.min_eq_left hk], by rw [List.length_take]; omega, h2, fun j hj => ?_⟩
  rw [List.length_take] at hj
  obtain ⟨b, off, ha, hc⟩ := h3 j (by omega)
  exact ⟨b, off, ha, by rw [List.getElem_take]; exact hc⟩
theorem SV.dropQ {w : World} {A : Option Addr} {n c k : Nat} {L : List ByteArray} (h : SV w (.slice A n c) L) (hk : k ≤ n) : SV w (sliced A k n c 1) (L.drop k) := by
  obtain ⟨A', c', hv, h1, ⟨h2, h2'⟩, h3⟩ := h
  injection hv with e1 e2 e3
  subst e1 e2 e3
  refine ⟨if c = k then A else A.map (·.add (k * 1)), c - k, by rw [List.length_drop]; rfl, by rw [List.length_drop]; omega, ⟨by omega, fun e => ?_⟩, fun j hj => ?_⟩
  · by_cases q : c = k
    · omega
    · rw [if_neg q] at e
      have : A = none := by cases A with | none => rfl | some a => cases e
      have := h2' this
      omega
  · rw [List.length_drop] at hj
    obtain ⟨b, off, ha, hc⟩ := h3 (k + j) (by omega)
    subst ha
    refine ⟨b, off + k * 1, ?_, ?_⟩
    · rw [if_neg (by omega)]
      show some ((⟨b, off, none⟩ : Addr).add (k * 1)) = _
      rw [Go.WideShapes.add_plain]
    · rw [List.getElem_drop, show off + k * 1 + j = off + (k + j) by omega]
      exact hc
theorem sv_one (w : World) (s : ByteArray) : SV (w.alloc (.cells #[.string s] 9)) (.slice (some ⟨w.heap.size, 0, none⟩) 1 1) [s] := by
  refine ⟨_, 1, rfl, Nat.le_refl _, ⟨by decide, fun h => by cases h⟩, fun j hj => ⟨w.heap.size, 0, rfl, ?_⟩⟩
  have : j = 0 := by simp at hj; omega
  subst this
  rw [World.cell?_alloc_mark]; rfl
theorem intoT_len (s : ByteArray) (L : List ByteArray) : (intoT s L).length ≤ L.length + 1 := by rw [intoT_ins]; exact insRs_len s L
set_option maxRecDepth 100000 in
set_option maxHeartbeats 8000000 in
theorem rinto_any (v : Value) (L : List ByteArray) (s : ByteArray) (w : World) (h : SV w v L) (hlen : L.length ≤ 1000000) :
    Calls Tryz.prog 58 #[v, .string s] w fun e w' => ∃ v', e = .returned v' ∧ SV w' v' (intoT s L) ∧ Gr w w' := by
  have HV := Lib.hid h
  obtain ⟨A, c, hvf, hnc, ⟨hcm, -⟩, hat⟩ := h
  subst hvf
  have HAT : Hid (∀ j (hj : j < L.length), ∃ b off, A = some ⟨b, off, none⟩ ∧ w.cell? ⟨b, off + j, none⟩ = some (.string L[j])) := Lib.hid hat
  obtain ⟨n, hn⟩ : ∃ n, n = L.length := ⟨_, rfl⟩
  have HN := Lib.hid hn
  rw [← hn] at HV hlen hnc ⊢
  clear hat hn hcm
  go_enter Tryz.func58, Tryz.ntmps58
  go_wp2_with fail
  go_loopw [5] (fun i wr => ∃ j : Nat, j ≤ n ∧ i = .int .i64 j ∧ Hid (Gr w wr ∧ ∀ k (hk : k < L.length), k < j → lessS L[k] s = true)) (fun i _ => n - (intOf i).toNat)
  case atStart => exact ⟨0, Nat.zero_le _, rfl, Lib.hid ⟨Gr.refl _, fun _ _ h => absurd h (Nat.not_lt_zero _)⟩⟩
  case round =>
    obtain ⟨j, hj, rfl, hst⟩ := hrel
    rename World => wr
    have HGR := Lib.hid hst.out.1
    have HALL := Lib.hid hst.out.2
    clear hst
    have hj0 : (0 : Int) ≤ (j : Int) := Int.natCast_nonneg _
    have hst := slice_to_g 34 1 elemSt sizeSt n c j (by omega) A
    have hsf := slice_from_g 34 1 elemSt sizeSt n c j (by omega) A
    by_cases hjn : j < n
    case pos =>
      have hjn1 : (j : Int) < (n : Int) := by omega
      have hjl : j < L.length := by rw [← HN.out]; exact hjn
      obtain ⟨b, off, hA, q0⟩ := HAT.out j hjl
      obtain ⟨x, hx⟩ : ∃ x, x = L[j] := ⟨_, rfl⟩
      rw [← hx] at q0
      have q1 := HGR.out.cell q0
      rcases hl : lessS x s with _ | _
      case true =>
        have p1 : Go.Op.bytesLess x.toList s.toList = true := hl
        have HNX : Hid (∀ k (hk : k < L.length), k < j + 1 → lessS L[k] s = true) := Lib.hid fun k hk hkj => by
          by_cases e : k = j
          · subst e; rw [← hx]; exact hl
          · exact HALL.out k hk (by omega)
        subst hA
        clear hl hx q0 hst hsf
        go_wp2_with fail
        go_roundw
        case measure => simp [intOf]; omega
        case rel => exact ⟨j + 1, by omega, by go_num, Lib.hid ⟨HGR.out, HNX.out⟩⟩
      case false =>
        have p1 : Go.Op.bytesLess x.toList s.toList = false := hl
        have HPL : Hid (plcS s L = j) := Lib.hid (plcS_eq hjl (by rw [← hx]; exact hl) HALL.out)
        by_cases hxs : x = s
        · have p2 : (x.toList == s.toList) = true := by rw [hxs]; simp
          have HE : Hid (intoT s L = L) := Lib.hid (by unfold intoT; rw [HPL.out, List.getElem?_eq_getElem hjl, ← hx, hxs, if_pos rfl])
          subst hA
          clear hl hx q0 hst hsf hxs
          go_wp2_with fail
          go_ret
          exact ⟨_, rfl, by rw [HE.out]; exact HV.out.gr HGR.out, HGR.out⟩
        · have p2 : (x.toList == s.toList) = false := eqS_ne hxs
          have HE : Hid (intoT s L = L.take j ++ [s] ++ L.drop j) := Lib.hid (by unfold intoT; rw [HPL.out, List.getElem?_eq_getElem hjl, ← hx, if_neg (fun h => hxs (Option.some.inj h))]; simp)
          subst hA
          clear hl hx q0 hxs
          have HT := Lib.hid ((HV.out.takeQ (k := j) (by rw [← HN.out]; omega)).gr HGR.out)
          have HD := Lib.hid ((HV.out.dropQ (k := j) (by omega)).gr HGR.out)
          have HTL : Hid (j = (L.take j).length) := Lib.hid (by rw [List.length_take]; have := HN.out; omega)
          have HDL : Hid (n - j = (L.drop j).length) := Lib.hid (by rw [List.length_drop, ← HN.out])
          obtain ⟨Ad, cd, hsd⟩ : ∃ Ad cd, sliced (some ⟨b, off, none⟩) j n c 1 = .slice Ad (n - j) cd := ⟨_, _, rfl⟩
          rw [hsd] at hsf HD
          have hz1 : (0 + j) * 16 ≤ 140737488355328 := by omega
          have hz2 : (j + 1) * 16 ≤ 140737488355328 := by omega
          have hz3 : (j + 1 + (n - j)) * 16 ≤ 140737488355328 := by omega
          clear hsd
          go_wp2_with (at_builtin; refine wpList_push_n (w0 := wr) rfl (.tmp 34) (.tmp 37) rfl (.slice none 0 0) (.slice (some ⟨b, off, none⟩) j c) [] (L.take j) 0 j rfl HTL.out rfl (SO.nil _ _) rfl HT.out hz1 (Gr.refl _) ?_)
          intro A1 c1 w1 hown1 g1
          have hown1 : SO w1 wr.heap.size (.slice A1 j c1) (L.take j) := by simpa using hown1
          obtain ⟨W2, hW2, g2, hs2⟩ : ∃ W, W = w1.alloc (.cells #[.string s] 9) ∧ Gr w1 W ∧ SV W (.slice (some ⟨w1.heap.size, 0, none⟩) 1 1) [s] := ⟨_, rfl, (Gr.refl _).alloc _, sv_one w1 s⟩
          obtain ⟨b2, hb2⟩ : ∃ b, b = w1.heap.size := ⟨_, rfl⟩
          rw [← hb2] at hs2
          have HO2 := Lib.hid (hown1.gr g2)
          have HS2 := Lib.hid hs2
          have HG2 := Lib.hid (g1.trans g2)
          have e0 : (0 + j) = j := Nat.zero_add j
          clear hown1 g1 g2 hs2
          try rw [e0]
          clear e0
          go_wp2_with (at_builtin; rw [← hb2, ← hW2]; refine wpList_push_n (w0 := wr) rfl (.tmp 39) (.tmp 41) rfl (.slice A1 j c1) (.slice (some ⟨b2, 0, none⟩) 1 1) (L.take j) [s] j 1 HTL.out rfl rfl HO2.out rfl HS2.out hz2 HG2.out ?_)
          intro A3 c3 w3 hown3 g3
          have HO3 := Lib.hid hown3
          have HG3 := Lib.hid g3
          have HL3 : Hid (j + 1 = (L.take j ++ [s]).length) := Lib.hid (by rw [List.length_append, ← HTL.out]; rfl)
          have HD3 := Lib.hid (HD.out.gr g3)
          clear hown3 g3 hW2 hb2
          go_wp2_with (at_builtin; refine wpList_push_n (w0 := wr) rfl (.tmp 43) (.tmp 46) rfl (.slice A3 (j + 1) c3) (.slice Ad (n - j) cd) (L.take j ++ [s]) (L.drop j) (j + 1) (n - j) HL3.out HDL.out rfl HO3.out rfl HD3.out hz3 HG3.out ?_)
          intro A5 c5 w5 hown5 g5
          have HO5 := Lib.hid hown5
          have HG5 := Lib.hid (HGR.out.trans g5)
          obtain ⟨m5, hm5⟩ : ∃ m, m = j + 1 + (n - j) := ⟨_, rfl⟩
          rw [← hm5] at HO5 ⊢
          have HSV : Hid (SV w5 (.slice A5 m5 c5) (intoT s L)) := Lib.hid (by rw [HE.out]; simpa using HO5.out.sv)
          clear hown5 g5 hm5
          go_wp2_with fail
          go_ret
          exact ⟨_, rfl, HSV.out, HG5.out⟩
    case neg =>
      have hjn1 : ¬ (j : Int) < (n : Int) := by omega
      have hje : j = n := by omega
      have HPL : Hid (plcS s L = j) := Lib.hid (by rw [hje, HN.out]; exact plcS_none fun k hk => HALL.out k hk (by rw [hje, HN.out]; exact hk))
      have HE : Hid (intoT s L = L.take j ++ [s] ++ L.drop j) := Lib.hid (by unfold intoT; rw [HPL.out, List.getElem?_eq_none (by rw [hje, HN.out]; exact Nat.le_refl _), if_neg (fun h => by cases h)]; simp)
      clear hje
      have HT := Lib.hid ((HV.out.takeQ (k := j) (by rw [← HN.out]; omega)).gr HGR.out)
      have HD := Lib.hid ((HV.out.dropQ (k := j) (by omega)).gr HGR.out)
      have HTL : Hid (j = (L.take j).length) := Lib.hid (by rw [List.length_take]; have := HN.out; omega)
      have HDL : Hid (n - j = (L.drop j).length) := Lib.hid (by rw [List.length_drop, ← HN.out])
      obtain ⟨Ad, cd, hsd⟩ : ∃ Ad cd, sliced A j n c 1 = .slice Ad (n - j) cd := ⟨_, _, rfl⟩
      rw [hsd] at hsf HD
      have hz1 : (0 + j) * 16 ≤ 140737488355328 := by omega
      have hz2 : (j + 1) * 16 ≤ 140737488355328 := by omega
      have hz3 : (j + 1 + (n - j)) * 16 ≤ 140737488355328 := by omega
      clear hsd
      go_wp2_with (at_builtin; refine wpList_push_n (w0 := wr) rfl (.tmp 34) (.tmp 37) rfl (.slice none 0 0) (.slice A j c) [] (L.take j) 0 j rfl HTL.out rfl (SO.nil _ _) rfl HT.out hz1 (Gr.refl _) ?_)
      intro A1 c1 w1 hown1 g1
      have hown1 : SO w1 wr.heap.size (.slice A1 j c1) (L.take j) := by simpa using hown1
      obtain ⟨W2, hW2, g2, hs2⟩ : ∃ W, W = w1.alloc (.cells #[.string s] 9) ∧ Gr w1 W ∧ SV W (.slice (some ⟨w1.heap.size, 0, none⟩) 1 1) [s] := ⟨_, rfl, (Gr.refl _).alloc _, sv_one w1 s⟩
      obtain ⟨b2, hb2⟩ : ∃ b, b = w1.heap.size := ⟨_, rfl⟩
      rw [← hb2] at hs2
      have HO2 := Lib.hid (hown1.gr g2)
      have HS2 := Lib.hid hs2
      have HG2 := Lib.hid (g1.trans g2)
      have e0 : (0 + j) = j := Nat.zero_add j
      clear hown1 g1 g2 hs2
      try rw [e0]
      clear e0
      go_wp2_with (at_builtin; rw [← hb2, ← hW2]; refine wpList_push_n (w0 := wr) rfl (.tmp 39) (.tmp 41) rfl (.slice A1 j c1) (.slice (some ⟨b2, 0, none⟩) 1 1) (L.take j) [s] j 1 HTL.out rfl rfl HO2.out rfl HS2.out hz2 HG2.out ?_)
      intro A3 c3 w3 hown3 g3
      have HO3 := Lib.hid hown3
      have HG3 := Lib.hid g3
      have HL3 : Hid (j + 1 = (L.take j ++ [s]).length) := Lib.hid (by rw [List.length_append, ← HTL.out]; rfl)
      have HD3 := Lib.hid (HD.out.gr g3)
      clear hown3 g3 hW2 hb2
      go_wp2_with (at_builtin; refine wpList_push_n (w0 := wr) rfl (.tmp 43) (.tmp 46) rfl (.slice A3 (j + 1) c3) (.slice Ad (n - j) cd) (L.take j ++ [s]) (L.drop j) (j + 1) (n - j) HL3.out HDL.out rfl HO3.out rfl HD3.out hz3 HG3.out ?_)
      intro A5 c5 w5 hown5 g5
      have HO5 := Lib.hid hown5
      have HG5 := Lib.hid (HGR.out.trans g5)
      obtain ⟨m5, hm5⟩ : ∃ m, m = j + 1 + (n - j) := ⟨_, rfl⟩
      rw [← hm5] at HO5 ⊢
      have HSV : Hid (SV w5 (.slice A5 m5 c5) (intoT s L)) := Lib.hid (by rw [HE.out]; simpa using HO5.out.sv)
      clear hown5 g5 hm5
      go_wp2_with fail
      go_ret
      exact ⟨_, rfl, HSV.out, HG5.out⟩
end Go.Proofs.YtlihcjlonafohaaGreat
