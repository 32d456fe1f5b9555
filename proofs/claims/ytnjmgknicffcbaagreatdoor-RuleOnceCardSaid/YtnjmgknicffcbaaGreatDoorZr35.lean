/- Walks over package rule: Find, which rules may be, Check. Walks over package rule: named. -/
import Derived.Test.YtnjmgknicffcbaaGreatDoorZr34
namespace Go.Proofs.YtnjmgknicffcbaaGreatDoor
open Go.RowKit Go.Joins
set_option linter.unusedSimpArgs false
set_option linter.unusedVariables false

set_option maxRecDepth 100000 in
theorem scontains_any (v : Value) (L : List ByteArray) (s : ByteArray) (w : World) (hv : SV w v L) :
    Calls Tryz.prog 160 #[v, .string s] w fun e w' => e = .returned (.bool (hasW L s)) ∧ Gr w w' := by
  have H1 : Hid (Calls Tryz.prog 180 #[v, .string s] w fun e w' => (∃ k : Int, e = .returned (.int .i64 k) ∧ ((0 ≤ k) ↔ hasW L s = true)) ∧ Gr w w') := Lib.hid (by
    obtain ⟨A, c, rfl, l1, ⟨l2, _⟩, l3⟩ := hv
    have hc63 : c ≤ 9223372036854775807 := l2
    have HP := Lib.hid l3
    obtain ⟨n, hn⟩ : ∃ n, n = L.length := ⟨_, rfl⟩
    have HN := Lib.hid hn
    rw [← hn] at l1 ⊢
    clear l2 l3 hn
    go_enter Tryz.func180, Tryz.ntmps180
    go_wp2_with fail
    go_loopg [8] (n + 1) (fun kx s8 wr => ∃ j : Nat, s8 = .int .i64 (j : Int) ∧ j ≤ n ∧ n - j ≤ kx ∧ Hid (∀ i (h : i < L.length), i < j → eqS s L[i] = false) ∧ Hid (Gr w wr))
    case atStart => exact ⟨0, rfl, Nat.zero_le _, by omega, Lib.hid (fun i _ h => absurd h (Nat.not_lt_zero _)), Lib.hid (Gr.refl _)⟩
    case round =>
      obtain ⟨j, rfl, hj, hkx, HB, HG⟩ := hrel
      by_cases hlt : j < n
      · have hjL : j < L.length := by rw [← HN.out]; exact hlt
        obtain ⟨b, off, rfl, q0⟩ := HP.out j hjL
        have c0 := HG.out.cell q0
        obtain ⟨x, hx⟩ : ∃ x, x = L[j] := ⟨_, rfl⟩
        rw [← hx] at c0
        have t0 : (0 : Int) ≤ (j : Int) := by omega
        have t1 : (j : Int) < (n : Int) := by omega
        obtain ⟨q, hq⟩ : ∃ q, q = eqS s x := ⟨_, rfl⟩
        have tq : (s.toList == x.toList) = q := hq.symm
        have HX : Hid (eqS s L[j] = q) := Lib.hid (by rw [← hx, hq])
        clear q0 hx hq
        rcases q with _ | _
        · have HB2 : Hid (∀ i (h : i < L.length), i < j + 1 → eqS s L[i] = false) := Lib.hid (fun i h hi => by
            by_cases e : i = j
            · subst e; exact HX.out
            · exact HB.out i h (by omega))
          go_wp2_with fail
          go_roundg (n - (j + 1))
          case measure => omega
          case rel => exact ⟨j + 1, by go_num, by omega, Nat.le_refl _, HB2, HG⟩
        · have HY : Hid (hasW L s = true) := Lib.hid (by
            unfold hasW
            rw [List.any_eq_true]
            exact ⟨L[j], List.getElem_mem hjL, HX.out⟩)
          go_wp2_with fail
          go_ret
          exact ⟨⟨(j : Int), rfl, by rw [HY.out]; simp⟩, HG.out⟩
      · have HY : Hid (hasW L s = false) := Lib.hid (by
          unfold hasW
          rw [List.any_eq_false]
          intro x hx
          obtain ⟨i, hi, e⟩ := List.mem_iff_getElem.1 hx
          rw [← e, HB.out i hi (by rw [← HN.out] at hi; omega)]
          decide)
        go_wp2_with fail
        go_ret
        exact ⟨⟨-1, rfl, by rw [HY.out]; simp⟩, HG.out⟩)
  clear hv
  go_enter Tryz.func160, Tryz.ntmps160
  go_wp2_with fail
  refine H1.out.mono ?_
  rintro e w1 ⟨⟨k, rfl, hk⟩, g1⟩
  have HG := Lib.hid g1
  rcases hb : hasW L s with _ | _
  · have t0 : ¬ (0 : Int) ≤ k := fun h => by rw [hk.1 h] at hb; cases hb
    have HBV := Lib.hid hb
    clear hk g1 hb
    go_wp2_with fail
    go_ret
    exact ⟨by rw [HBV.out]; first | rfl | (simp; done) | (simp; omega), HG.out⟩
  · have t0 : (0 : Int) ≤ k := hk.2 hb
    have HBV := Lib.hid hb
    clear hk g1 hb
    go_wp2_with fail
    go_ret
    exact ⟨by rw [HBV.out]; first | rfl | (simp; done) | (simp; omega), HG.out⟩
set_option maxRecDepth 100000 in
set_option maxHeartbeats 2000000 in
theorem find1_any (r : RU) (key : ByteArray) (PK : Nat) (w : World) (h0 : w.cell? ⟨PK, 0, none⟩ = some (.string key)) :
    Calls Tryz.prog 92 #[.agg (ruv r), .pointer (some ⟨PK, 0, none⟩)] w fun e w' => e = .returned (.bool (isF key r)) ∧ Gr w w' := by
  obtain ⟨W, hW, hg, hr⟩ := rubox w r
  have HG := Lib.hid hg
  have hk := hg.cell h0
  obtain ⟨q, hq⟩ : ∃ q, q = eqS r.key key := ⟨_, rfl⟩
  have hqe : (r.key.toList == key.toList) = q := hq.symm
  obtain ⟨r0, r1, r2, r3, r4⟩ := hr
  simp only [Nat.zero_add] at r0 r1 r2 r3 r4
  by_cases h1 : 1 ≤ r.k
  · have h1' : decide (1 ≤ r.k) = true := decide_eq_true h1
    by_cases h2 : r.k ≤ 8
    · have h2' : decide (r.k ≤ 8) = true := decide_eq_true h2
      have HZ : Hid (isF key r = q) := Lib.hid (by unfold isF knB; rw [h1', h2', hq]; rfl)
      clear hg h0 hq
      go_enter Tryz.func92, Tryz.ntmps92
      go_upto_region 1 with (fail)
      rw [← hW]
      clear hW
      go_wp2_with fail
      go_ret
      exact ⟨by rw [HZ.out]; rfl, HG.out⟩
    · have h2' : decide (r.k ≤ 8) = false := decide_eq_false h2
      have HZ : Hid (isF key r = false) := Lib.hid (by unfold isF knB; rw [h1', h2']; rfl)
      clear hg h0 hq
      go_enter Tryz.func92, Tryz.ntmps92
      go_upto_region 1 with (fail)
      rw [← hW]
      clear hW
      go_wp2_with fail
      go_ret
      exact ⟨by rw [HZ.out]; rfl, HG.out⟩
  · have h1' : decide (1 ≤ r.k) = false := decide_eq_false h1
    have HZ : Hid (isF key r = false) := Lib.hid (by unfold isF knB; rw [h1']; rfl)
    clear hg h0 hq
    go_enter Tryz.func92, Tryz.ntmps92
    go_upto_region 1 with (fail)
    rw [← hW]
    clear hW
    go_wp2_with fail
    go_ret
    exact ⟨by rw [HZ.out]; rfl, HG.out⟩
def IRRel (key : ByteArray) (L : List RU) (w : World) (i : Value) (wr : World) : Prop :=
  ∃ j : Nat, j ≤ L.length ∧ i = .int .i64 (j : Int) ∧ Gr w wr ∧ ∀ q (hq : q < L.length), q < j → isF key L[q] = false
set_option maxRecDepth 100000 in
set_option maxHeartbeats 1000000 in
theorem indexF_any (v : Value) (L : List RU) (key : ByteArray) (PK : Nat) (w : World) (hv : UV w v L) (h0 : w.cell? ⟨PK, 0, none⟩ = some (.string key)) :
    Calls Tryz.prog 91 #[v, .func (.func 92) #[] #[.pointer (some ⟨PK, 0, none⟩)]] w fun e w' => e = .returned (.int .i64 (fInt L key)) ∧ Gr w w' := by
  obtain ⟨A, c, hva, hnc, ⟨hcm, -⟩, hat⟩ := hv
  subst hva
  have HAT : Hid (∀ j (hj : j < L.length), ∃ b off, A = some ⟨b, off, none⟩ ∧ RCell w b (off + j * 5) L[j]) := Lib.hid hat
  have H0 := Lib.hid h0
  have hc63 : c ≤ 9223372036854775807 := by unfold maxLen at hcm; omega
  obtain ⟨n, hn⟩ : ∃ n, n = L.length := ⟨_, rfl⟩
  rw [← hn] at hnc ⊢
  have HN := Lib.hid hn
  clear hn hat h0 hcm
  go_enter Tryz.func91, Tryz.ntmps91
  go_wp2_with fail
  go_loopw [8] (fun i wr => IRRel key L w i wr) (fun i _ => n - (intOf i).toNat)
  case atStart => exact ⟨0, Nat.zero_le _, rfl, Gr.refl _, fun j _ h => absurd h (Nat.not_lt_zero _)⟩
  case round =>
    obtain ⟨j, hj, rfl, hgr, hall⟩ := hrel
    rw [← HN.out] at hj
    have HAL := Lib.hid hall
    clear hall
    by_cases hlt : j < n
    · have hjM : j < L.length := by rw [← HN.out]; exact hlt
      obtain ⟨b, off, hA, hc⟩ := HAT.out j hjM
      subst hA
      obtain ⟨c0, c1', c2, c3, c4⟩ := hc.gr hgr
      obtain ⟨f, hf⟩ : ∃ f, f = L[j] := ⟨_, rfl⟩
      rw [← hf] at c0 c1' c2 c3 c4
      have HF := Lib.hid hf
      have HC := Lib.hid (find1_any f key PK wr (hgr.cell H0.out))
      rcases hq : isF key f with _ | _
      · rw [hq] at HC
        have HA2 : Hid (∀ q (hq : q < L.length), q < j + 1 → isF key L[q] = false) := Lib.hid fun q hqq hjk => by
          by_cases e : q = j
          · subst e; rw [← HF.out]; exact hq
          · exact HAL.out q hqq (by omega)
        clear hq hf hc
        go_wp2_with fail
        refine HC.out.mono ?_
        rintro e w1 ⟨rfl, g1⟩
        go_wp2_with fail
        go_roundw
        case rel => exact ⟨j + 1, by rw [← HN.out]; omega, by go_num, hgr.trans g1, HA2.out⟩
        case measure => simp [intOf]; omega
      · rw [hq] at HC
        have HI : Hid (fInt L key = (j : Int)) := Lib.hid (fInt_some (fIdx_some.2 ⟨hjM, by rw [← HF.out]; exact hq, HAL.out⟩))
        clear hq hf hc
        go_wp2_with fail
        refine HC.out.mono ?_
        rintro e w1 ⟨rfl, g1⟩
        go_wp2_with fail
        go_ret
        exact ⟨by rw [HI.out]; rfl, hgr.trans g1⟩
    · have HI : Hid (fInt L key = -1) := Lib.hid (fInt_none (fIdx_none.2 fun x hx => by obtain ⟨i, hi, rfl⟩ := List.mem_iff_getElem.1 hx; exact HAL.out i hi (by rw [← HN.out] at hi; omega)))
      go_wp2_with fail
      go_ret
      exact ⟨by rw [HI.out]; rfl, hgr⟩
set_option maxRecDepth 100000 in
theorem find_any (v : Value) (L : List RU) (key : ByteArray) (w : World) (hv : UV w v L) :
    Calls Tryz.prog 46 #[v, .string key] w fun e w' => e = .returned (.int .i64 (fInt L key)) ∧ Gr w w' := by
  obtain ⟨W, hW, hg⟩ : ∃ W, W = w.alloc (.cells #[.string key] 9) ∧ Gr w W := ⟨_, rfl, (Gr.refl w).alloc _⟩
  have h0 : W.cell? ⟨w.heap.size, 0, none⟩ = some (.string key) := by rw [hW]; exact obj_cell (heap_allocR _ _ _) rfl
  have H := Lib.hid (indexF_any v L key w.heap.size W (hv.gr hg) h0)
  have HG := Lib.hid hg
  clear hv hg h0
  go_enter Tryz.func46, Tryz.ntmps46
  go_upto_region 1 with (fail)
  rw [← hW]
  clear hW
  go_wp2_with fail
  refine H.out.mono ?_
  rintro e w1 ⟨rfl, g⟩
  have HG1 := Lib.hid (HG.out.trans g)
  clear g
  go_wp2_with fail
  go_ret
  exact ⟨rfl, HG1.out⟩
set_option maxRecDepth 100000 in
set_option maxHeartbeats 1000000 in
theorem ruleOf_any (v : Value) (L : List RU) (key : ByteArray) (w : World) (hv : UV w v L) :
    Calls Tryz.prog 68 #[v, .string key] w fun e w' => e = .returned (.agg (ruv (ruleR L key))) ∧ Gr w w' := by
  obtain ⟨W, hW, hg, -⟩ := rubox w zR
  have hb : RBox W w.heap.size zR := by rw [hW]; exact heap_allocR _ _ _
  have H := Lib.hid (find_any v L key W (hv.gr hg))
  have HG := Lib.hid hg
  have HB := Lib.hid hb
  have HV := Lib.hid hv
  obtain ⟨A, c, rfl, l1, ⟨l2, _⟩, l3⟩ := hv
  have l2' : c ≤ 9223372036854775807 := l2
  cases hf : fIdx L key with
  | none =>
    have HF : Hid (ruleR L key = zR) := Lib.hid (ruleR_none hf)
    rw [fInt_none hf] at H
    clear hg hb l3 l2 hf
    go_enter Tryz.func68, Tryz.ntmps68
    go_upto_region 1 with (fail)
    change Code.wp Tryz.prog _ _ _ (w.alloc (.cells (ruv zR) 49))
    rw [← hW]
    clear hW
    go_wp2_with fail
    refine H.out.mono ?_
    rintro e w1 ⟨rfl, g⟩
    have HB1 := Lib.hid (HB.out.gr g)
    have HG1 := Lib.hid (HG.out.trans g)
    obtain ⟨z0, z1, z2, z3, z4⟩ := HB1.out.cell
    have f0 := HB1.out.free 0
    have f1 := HB1.out.free 1
    have f2 := HB1.out.free 2
    have f3 := HB1.out.free 3
    have f4 := HB1.out.free 4
    simp only [Nat.zero_add] at z0 z1 z2 z3 z4
    clear g
    go_wp2_with fail
    obtain ⟨wf, hwf, hbx, hgf⟩ : ∃ wf, wf = (((((w1.setCell ⟨w.heap.size, 0, none⟩ (.int .i64 zR.k)).setCell ⟨w.heap.size, 1, none⟩ (.string zR.key)).setCell ⟨w.heap.size, 2, none⟩ (.string zR.other)).setCell ⟨w.heap.size, 3, none⟩ (.int .i64 zR.min)).setCell ⟨w.heap.size, 4, none⟩ (.int .i64 zR.start)) ∧ RBox wf w.heap.size zR ∧ Gr w wf := ⟨_, rfl, set5_box HB1.out zR, set5_gr HG1.out (Nat.le_refl _) zR⟩
    have hwf : wf = (((((w1.setCell ⟨w.heap.size, 0, none⟩ (.int .i64 0)).setCell ⟨w.heap.size, 1, none⟩ (.string ⟨#[]⟩)).setCell ⟨w.heap.size, 2, none⟩ (.string ⟨#[]⟩)).setCell ⟨w.heap.size, 3, none⟩ (.int .i64 0)).setCell ⟨w.heap.size, 4, none⟩ (.int .i64 0)) := hwf
    rw [← hwf]
    have hld := hbx.ld
    rw [HF.out]
    exact bodyPost_ret (v := .agg (ruv zR)) (by simp [results, Tryz.results68, asAddr, hld]) rfl ⟨rfl, hgf⟩
  | some j =>
    obtain ⟨hj, _, _⟩ := fIdx_some.1 hf
    have HF : Hid (ruleR L key = L[j]) := Lib.hid (ruleR_some hf hj)
    rw [fInt_some hf] at H
    obtain ⟨b, off, rfl, c5⟩ := l3 j hj
    have C5 := Lib.hid c5
    obtain ⟨x, hx⟩ : ∃ x, x = L[j] := ⟨_, rfl⟩
    rw [← hx] at C5 HF
    have t0 : (0 : Int) ≤ (j : Int) := by omega
    have t1 : ¬ (j : Int) < 0 := by omega
    obtain ⟨n, hn⟩ : ∃ n, n = L.length := ⟨_, rfl⟩
    rw [← hn] at H hj l1 ⊢
    have t2 : (j : Int) < (n : Int) := by omega
    clear hg hb l3 l2 hf c5 hn hx
    go_enter Tryz.func68, Tryz.ntmps68
    go_upto_region 1 with (fail)
    change Code.wp Tryz.prog _ _ _ (w.alloc (.cells (ruv zR) 49))
    rw [← hW]
    clear hW
    go_wp2_with fail
    refine H.out.mono ?_
    rintro e w1 ⟨rfl, g⟩
    have HB1 := Lib.hid (HB.out.gr g)
    have HG1 := Lib.hid (HG.out.trans g)
    obtain ⟨z0, z1, z2, z3, z4⟩ := HB1.out.cell
    obtain ⟨r0, r1, r2, r3, r4⟩ := C5.out.gr HG1.out
    have f0 := HB1.out.free 0
    have f1 := HB1.out.free 1
    have f2 := HB1.out.free 2
    have f3 := HB1.out.free 3
    have f4 := HB1.out.free 4
    simp only [Nat.zero_add] at z0 z1 z2 z3 z4
    clear g
    go_wp2_with fail
    obtain ⟨wf, hwf, hbx, hgf⟩ : ∃ wf, wf = (((((w1.setCell ⟨w.heap.size, 0, none⟩ (.int .i64 x.k)).setCell ⟨w.heap.size, 1, none⟩ (.string x.key)).setCell ⟨w.heap.size, 2, none⟩ (.string x.other)).setCell ⟨w.heap.size, 3, none⟩ (.int .i64 x.min)).setCell ⟨w.heap.size, 4, none⟩ (.int .i64 x.start)) ∧ RBox wf w.heap.size x ∧ Gr w wf := ⟨_, rfl, set5_box HB1.out x, set5_gr HG1.out (Nat.le_refl _) x⟩
    rw [← hwf]
    have hld := hbx.ld
    rw [HF.out]
    exact bodyPost_ret (v := .agg (ruv x)) (by simp [results, Tryz.results68, asAddr, hld]) rfl ⟨rfl, hgf⟩
end Go.Proofs.YtnjmgknicffcbaaGreatDoor
namespace Go.Proofs.YtnjmgknicffcbaaGreatDoor
open Go.RowKit Go.Joins
set_option linter.unusedSimpArgs false
set_option linter.unusedVariables false

set_option maxRecDepth 100000 in
set_option maxHeartbeats 4000000 in
theorem named_any (r : RU) (w : World) (hp : Laid w) :
    Calls Tryz.prog 134 #[.agg (ruv r)] w fun e w' => e = .returned (.bool (namedB r)) ∧ Gr w w' := by
  obtain ⟨W, hW, hg, hr⟩ := rubox w r
  have HG := Lib.hid hg
  have HR := Lib.hid hr
  have HN := Lib.hid (namesOf_any r.k W (hp.gr hg))
  have hn4 := names_le r.k
  obtain ⟨N, hN⟩ : ∃ N, N = names r.k := ⟨_, rfl⟩
  have HZ : Hid (namedB r = (!N.isEmpty && (r.other.toList.isEmpty || hasW N sOTHER) && (decide (r.min = 0) || hasW N sMIN) && (decide (r.start = 0) || hasW N sSTART))) := Lib.hid (by rw [hN]; rfl)
  rw [← hN] at HN hn4
  obtain ⟨k, key, other, mn, st⟩ := r
  simp only [] at HZ HN
  clear hN hp hg
  go_enter Tryz.func134, Tryz.ntmps134
  go_upto_region 1 with (fail)
  rw [← hW]
  clear hW
  obtain ⟨r0, r1, r2, r3, r4⟩ := hr
  simp only [Nat.zero_add] at r0 r1 r2 r3 r4
  go_wp2_with fail
  refine HN.out.mono ?_
  rintro e w1 ⟨v, rfl, hv, g⟩
  have HG1 := Lib.hid (HG.out.trans g)
  have HV1 := Lib.hid hv
  have HC1 := Lib.hid (HR.out.gr g)
  clear r0 r1 r2 r3 r4 g
  obtain ⟨r0, r1, r2, r3, r4⟩ := HC1.out
  simp only [Nat.zero_add] at r0 r1 r2 r3 r4
  obtain ⟨A, c, rfl, l1, l2, l3⟩ := hv
  clear l3 l2 HR HN HG
  cases hl : N with
  | nil =>
    subst hl
    go_wp2_with fail
    go_ret
    exact ⟨by rw [HZ.out]; rfl, HG1.out⟩
  | cons a M =>
    have hpos : 0 < N.length := by rw [hl]; simp
    obtain ⟨n, hn⟩ : ∃ n, n = N.length := ⟨_, rfl⟩
    rw [← hl]
    have HCO := Lib.hid (fun w hv => scontains_any (.slice A N.length c) N ⟨#[79, 84, 72, 69, 82]⟩ w hv)
    have HCM := Lib.hid (fun w hv => scontains_any (.slice A N.length c) N ⟨#[77, 73, 78]⟩ w hv)
    have HCS := Lib.hid (fun w hv => scontains_any (.slice A N.length c) N ⟨#[83, 84, 65, 82, 84]⟩ w hv)
    have HE : N.isEmpty = false := by rw [hl]; rfl
    rw [HE] at HZ
    unfold sOTHER sMIN sSTART at HZ
    obtain ⟨ho, hho⟩ : ∃ h, h = hasW N ⟨#[79, 84, 72, 69, 82]⟩ := ⟨_, rfl⟩
    obtain ⟨hm, hhm⟩ : ∃ h, h = hasW N ⟨#[77, 73, 78]⟩ := ⟨_, rfl⟩
    obtain ⟨hs, hhs⟩ : ∃ h, h = hasW N ⟨#[83, 84, 65, 82, 84]⟩ := ⟨_, rfl⟩
    rw [← hho] at HCO HZ
    rw [← hhm] at HCM HZ
    rw [← hhs] at HCS HZ
    rw [← hn] at HCO HCM HCS HV1 hpos hn4 ⊢
    have t0 : (0 : Int) < (n : Int) := by omega
    clear hho hhm hhs HE l1 hl hn
    rcases he : other.toList.isEmpty with _ | _
    · rw [he] at HZ
      by_cases hmn : mn = 0
      · subst hmn
        by_cases hst : st = 0
        · subst hst
          go_wp2_with fail
          refine (HCO.out _ HV1.out).mono ?_
          rintro e w2 ⟨rfl, g⟩
          have HG2 := Lib.hid (HG1.out.trans g)
          have HV2 := Lib.hid (HV1.out.gr g)
          have HC2 := Lib.hid (HC1.out.gr g)
          clear r0 r1 r2 r3 r4 g
          obtain ⟨r0, r1, r2, r3, r4⟩ := HC2.out
          rcases ho with _ | _
          · go_wp2_with fail
            go_ret
            exact ⟨by rw [HZ.out]; rfl, HG2.out⟩
          · go_wp2_with fail
            go_ret
            exact ⟨by rw [HZ.out]; rfl, HG2.out⟩
        · rw [decide_eq_false hst] at HZ
          have hstb : (st == 0) = false := by simpa using hst
          go_wp2_with fail
          refine (HCO.out _ HV1.out).mono ?_
          rintro e w2 ⟨rfl, g⟩
          have HG2 := Lib.hid (HG1.out.trans g)
          have HV2 := Lib.hid (HV1.out.gr g)
          have HC2 := Lib.hid (HC1.out.gr g)
          clear r0 r1 r2 r3 r4 g
          obtain ⟨r0, r1, r2, r3, r4⟩ := HC2.out
          rcases ho with _ | _
          · go_wp2_with fail
            go_ret
            exact ⟨by rw [HZ.out]; rfl, HG2.out⟩
          · go_wp2_with fail
            refine (HCS.out _ HV2.out).mono ?_
            rintro e w3 ⟨rfl, g⟩
            have HG3 := Lib.hid (HG2.out.trans g)
            have HV3 := Lib.hid (HV2.out.gr g)
            have HC3 := Lib.hid (HC2.out.gr g)
            clear r0 r1 r2 r3 r4 g
            obtain ⟨r0, r1, r2, r3, r4⟩ := HC3.out
            rcases hs with _ | _
            · go_wp2_with fail
              go_ret
              exact ⟨by rw [HZ.out]; rfl, HG3.out⟩
            · go_wp2_with fail
              go_ret
              exact ⟨by rw [HZ.out]; rfl, HG3.out⟩
      · rw [decide_eq_false hmn] at HZ
        have hmnb : (mn == 0) = false := by simpa using hmn
        by_cases hst : st = 0
        · subst hst
          go_wp2_with fail
          refine (HCO.out _ HV1.out).mono ?_
          rintro e w2 ⟨rfl, g⟩
          have HG2 := Lib.hid (HG1.out.trans g)
          have HV2 := Lib.hid (HV1.out.gr g)
          have HC2 := Lib.hid (HC1.out.gr g)
          clear r0 r1 r2 r3 r4 g
          obtain ⟨r0, r1, r2, r3, r4⟩ := HC2.out
          rcases ho with _ | _
          · go_wp2_with fail
            go_ret
            exact ⟨by rw [HZ.out]; rfl, HG2.out⟩
          · go_wp2_with fail
            refine (HCM.out _ HV2.out).mono ?_
            rintro e w3 ⟨rfl, g⟩
            have HG3 := Lib.hid (HG2.out.trans g)
            have HV3 := Lib.hid (HV2.out.gr g)
            have HC3 := Lib.hid (HC2.out.gr g)
            clear r0 r1 r2 r3 r4 g
            obtain ⟨r0, r1, r2, r3, r4⟩ := HC3.out
            rcases hm with _ | _
            · go_wp2_with fail
              go_ret
              exact ⟨by rw [HZ.out]; rfl, HG3.out⟩
            · go_wp2_with fail
              go_ret
              exact ⟨by rw [HZ.out]; rfl, HG3.out⟩
        · rw [decide_eq_false hst] at HZ
          have hstb : (st == 0) = false := by simpa using hst
          go_wp2_with fail
          refine (HCO.out _ HV1.out).mono ?_
          rintro e w2 ⟨rfl, g⟩
          have HG2 := Lib.hid (HG1.out.trans g)
          have HV2 := Lib.hid (HV1.out.gr g)
          have HC2 := Lib.hid (HC1.out.gr g)
          clear r0 r1 r2 r3 r4 g
          obtain ⟨r0, r1, r2, r3, r4⟩ := HC2.out
          rcases ho with _ | _
          · go_wp2_with fail
            go_ret
            exact ⟨by rw [HZ.out]; rfl, HG2.out⟩
          · go_wp2_with fail
            refine (HCM.out _ HV2.out).mono ?_
            rintro e w3 ⟨rfl, g⟩
            have HG3 := Lib.hid (HG2.out.trans g)
            have HV3 := Lib.hid (HV2.out.gr g)
            have HC3 := Lib.hid (HC2.out.gr g)
            clear r0 r1 r2 r3 r4 g
            obtain ⟨r0, r1, r2, r3, r4⟩ := HC3.out
            rcases hm with _ | _
            · go_wp2_with fail
              go_ret
              exact ⟨by rw [HZ.out]; rfl, HG3.out⟩
            · go_wp2_with fail
              refine (HCS.out _ HV3.out).mono ?_
              rintro e w4 ⟨rfl, g⟩
              have HG4 := Lib.hid (HG3.out.trans g)
              have HV4 := Lib.hid (HV3.out.gr g)
              have HC4 := Lib.hid (HC3.out.gr g)
              clear r0 r1 r2 r3 r4 g
              obtain ⟨r0, r1, r2, r3, r4⟩ := HC4.out
              rcases hs with _ | _
              · go_wp2_with fail
                go_ret
                exact ⟨by rw [HZ.out]; rfl, HG4.out⟩
              · go_wp2_with fail
                go_ret
                exact ⟨by rw [HZ.out]; rfl, HG4.out⟩
    · rw [he] at HZ
      have he2 : other.toList = [] := List.isEmpty_iff.1 he
      by_cases hmn : mn = 0
      · subst hmn
        by_cases hst : st = 0
        · subst hst
          go_wp2_with fail
          go_ret
          exact ⟨by rw [HZ.out]; rfl, HG1.out⟩
        · rw [decide_eq_false hst] at HZ
          have hstb : (st == 0) = false := by simpa using hst
          go_wp2_with fail
          refine (HCS.out _ HV1.out).mono ?_
          rintro e w2 ⟨rfl, g⟩
          have HG2 := Lib.hid (HG1.out.trans g)
          have HV2 := Lib.hid (HV1.out.gr g)
          have HC2 := Lib.hid (HC1.out.gr g)
          clear r0 r1 r2 r3 r4 g
          obtain ⟨r0, r1, r2, r3, r4⟩ := HC2.out
          rcases hs with _ | _
          · go_wp2_with fail
            go_ret
            exact ⟨by rw [HZ.out]; rfl, HG2.out⟩
          · go_wp2_with fail
            go_ret
            exact ⟨by rw [HZ.out]; rfl, HG2.out⟩
      · rw [decide_eq_false hmn] at HZ
        have hmnb : (mn == 0) = false := by simpa using hmn
        by_cases hst : st = 0
        · subst hst
          go_wp2_with fail
          refine (HCM.out _ HV1.out).mono ?_
          rintro e w2 ⟨rfl, g⟩
          have HG2 := Lib.hid (HG1.out.trans g)
          have HV2 := Lib.hid (HV1.out.gr g)
          have HC2 := Lib.hid (HC1.out.gr g)
          clear r0 r1 r2 r3 r4 g
          obtain ⟨r0, r1, r2, r3, r4⟩ := HC2.out
          rcases hm with _ | _
          · go_wp2_with fail
            go_ret
            exact ⟨by rw [HZ.out]; rfl, HG2.out⟩
          · go_wp2_with fail
            go_ret
            exact ⟨by rw [HZ.out]; rfl, HG2.out⟩
        · rw [decide_eq_false hst] at HZ
          have hstb : (st == 0) = false := by simpa using hst
          go_wp2_with fail
          refine (HCM.out _ HV1.out).mono ?_
          rintro e w2 ⟨rfl, g⟩
          have HG2 := Lib.hid (HG1.out.trans g)
          have HV2 := Lib.hid (HV1.out.gr g)
          have HC2 := Lib.hid (HC1.out.gr g)
          clear r0 r1 r2 r3 r4 g
          obtain ⟨r0, r1, r2, r3, r4⟩ := HC2.out
          rcases hm with _ | _
          · go_wp2_with fail
            go_ret
            exact ⟨by rw [HZ.out]; rfl, HG2.out⟩
          · go_wp2_with fail
            refine (HCS.out _ HV2.out).mono ?_
            rintro e w3 ⟨rfl, g⟩
            have HG3 := Lib.hid (HG2.out.trans g)
            have HV3 := Lib.hid (HV2.out.gr g)
            have HC3 := Lib.hid (HC2.out.gr g)
            clear r0 r1 r2 r3 r4 g
            obtain ⟨r0, r1, r2, r3, r4⟩ := HC3.out
            rcases hs with _ | _
            · go_wp2_with fail
              go_ret
              exact ⟨by rw [HZ.out]; rfl, HG3.out⟩
            · go_wp2_with fail
              go_ret
              exact ⟨by rw [HZ.out]; rfl, HG3.out⟩
end Go.Proofs.YtnjmgknicffcbaaGreatDoor
