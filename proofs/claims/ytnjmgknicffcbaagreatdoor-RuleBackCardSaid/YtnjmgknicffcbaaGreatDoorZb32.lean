/- Walks: whether a later operation of its own transaction sees a deed. Walks: seenWithin. -/
import Derived.Test.YtnjmgknicffcbaaGreatDoorZb31
namespace Go.Proofs.YtnjmgknicffcbaaGreatDoor
open Go.RowKit Go.Joins
set_option linter.unusedSimpArgs false
set_option linter.unusedVariables false

theorem TOV.drop {w : World} {A : Option Addr} {n c k : Nat} {ops : List TO} (h : TOV w (.slice A n c) ops) (hk : k ≤ n) : TOV w (sliced A k n c 4) (ops.drop k) := by
  obtain ⟨A', c', hv, h1, ⟨h2, h2'⟩, h3⟩ := h
  injection hv with e1 e2 e3
  subst e1 e2 e3
  refine ⟨if c = k then A else A.map (·.add (k * 4)), c - k, by rw [List.length_drop]; rfl, by rw [List.length_drop]; omega, ⟨by omega, fun e => ?_⟩, fun j hj => ?_⟩
  · by_cases q : c = k
    · omega
    · rw [if_neg q] at e
      have : A = none := by cases A with | none => rfl | some a => cases e
      have := h2' this
      omega
  · rw [List.length_drop] at hj
    obtain ⟨b, off, ha, hc⟩ := h3 (k + j) (by omega)
    subst ha
    refine ⟨b, off + k * 4, ?_, ?_⟩
    · rw [if_neg (by omega)]
      show some ((⟨b, off, none⟩ : Addr).add (k * 4)) = _
      rw [Go.WideShapes.add_plain]
    · rw [List.getElem_drop, show off + k * 4 + j * 4 = off + (k + j) * 4 by omega]
      exact hc
def IWRel (k : Int) (o : TO) (L : List TO) (w : World) (i : Value) (wr : World) : Prop :=
  ∃ j : Nat, j ≤ L.length ∧ i = .int .i64 (j : Int) ∧ Gr w wr ∧ ∀ q (hq : q < L.length), q < j → seesB k L[q] o = false
theorem any_at {k : Int} {o : TO} {L : List TO} {j : Nat} (hj : j < L.length) (h : seesB k L[j] o = true) : (L.any fun p => seesB k p o) = true := List.any_eq_true.2 ⟨L[j], List.getElem_mem hj, h⟩
theorem any_none {k : Int} {o : TO} {L : List TO} (h : ∀ q (hq : q < L.length), seesB k L[q] o = false) : (L.any fun p => seesB k p o) = false := by
  rw [List.any_eq_false]
  intro x hx
  obtain ⟨i, hi, rfl⟩ := List.mem_iff_getElem.1 hx
  rw [h i hi]
  exact Bool.false_ne_true
set_option maxRecDepth 100000 in
set_option maxHeartbeats 1000000 in
theorem indexW_any (v : Value) (L : List TO) (o : TO) (k : Int) (PK PO : Nat) (w : World) (hv : TOV w v L) (h0 : w.cell? ⟨PK, 0, none⟩ = some (.int .i64 k)) (h1 : TCell w PO 0 o) :
    Calls Tryz.prog 237 #[v, .func (.func 223) #[] #[.pointer (some ⟨PK, 0, none⟩), .pointer (some ⟨PO, 0, none⟩)]] w fun e w' => ∃ r : Int, e = .returned (.int .i64 r) ∧ decide (0 ≤ r) = (L.any fun p => seesB k p o) ∧ Gr w w' := by
  obtain ⟨A, c, hva, hnc, ⟨hcm, -⟩, hat⟩ := hv
  subst hva
  have HAT : Hid (∀ j (hj : j < L.length), ∃ b off, A = some ⟨b, off, none⟩ ∧ TCell w b (off + j * 4) L[j]) := Lib.hid hat
  have H0 := Lib.hid h0
  have H1 := Lib.hid h1
  have hc63 : c ≤ 9223372036854775807 := by unfold maxLen at hcm; omega
  obtain ⟨n, hn⟩ : ∃ n, n = L.length := ⟨_, rfl⟩
  rw [← hn] at hnc ⊢
  have HN := Lib.hid hn
  clear hn hat h0 h1 hcm
  go_enter Tryz.func237, Tryz.ntmps237
  go_wp2_with fail
  go_loopw [8] (fun i wr => IWRel k o L w i wr) (fun i _ => n - (intOf i).toNat)
  case atStart => exact ⟨0, Nat.zero_le _, rfl, Gr.refl _, fun j _ h => absurd h (Nat.not_lt_zero _)⟩
  case round =>
    obtain ⟨j, hj, rfl, hgr, hall⟩ := hrel
    rw [← HN.out] at hj
    have HAL := Lib.hid hall
    clear hall
    by_cases hlt : j < n
    · have hjM : j < L.length := by rw [← HN.out]; exact hlt
      obtain ⟨b, off, hA, hc⟩ := HAT.out j hjM
      subst hA
      obtain ⟨c0, c1', c2, c3⟩ := TCell.gr hc hgr
      obtain ⟨f, hf⟩ : ∃ f, f = L[j] := ⟨_, rfl⟩
      rw [← hf] at c0 c1' c2 c3
      have HF := Lib.hid hf
      have HC := Lib.hid (within1_any f o k PK PO wr (hgr.cell H0.out) (TCell.gr H1.out hgr))
      rcases hq : seesB k f o with _ | _
      · rw [hq] at HC
        have HA2 : Hid (∀ q (hq : q < L.length), q < j + 1 → seesB k L[q] o = false) := Lib.hid fun q hqq hjk => by
          by_cases e : q = j
          · subst e; rw [← HF.out]; exact hq
          · exact HAL.out q hqq (by omega)
        clear hq hf hc
        go_wp2_with fail
        refine HC.out.mono ?_
        rintro e w1 ⟨rfl, g1⟩
        go_wp2_with fail
        go_roundw
        case rel => exact ⟨j + 1, by rw [← HN.out]; omega, by go_num, hgr.trans g1, HA2.out⟩
        case measure => simp [intOf]; omega
      · rw [hq] at HC
        have HI := Lib.hid (any_at hjM (by rw [← HF.out]; exact hq))
        clear hq hf hc
        go_wp2_with fail
        refine HC.out.mono ?_
        rintro e w1 ⟨rfl, g1⟩
        go_wp2_with fail
        go_ret
        exact ⟨_, rfl, by rw [HI.out]; exact decide_eq_true (by omega), hgr.trans g1⟩
    · have HI := Lib.hid (any_none (k := k) (o := o) (L := L) (fun q hq => HAL.out q hq (by rw [← HN.out] at hq; omega)))
      go_wp2_with fail
      go_ret
      exact ⟨_, rfl, by rw [HI.out]; rfl, hgr⟩
set_option maxRecDepth 100000 in
set_option maxHeartbeats 1000000 in
theorem containsW_any (v : Value) (L : List TO) (o : TO) (k : Int) (PK PO : Nat) (w : World) (hv : TOV w v L) (h0 : w.cell? ⟨PK, 0, none⟩ = some (.int .i64 k)) (h1 : TCell w PO 0 o) :
    Calls Tryz.prog 222 #[v, .func (.func 223) #[] #[.pointer (some ⟨PK, 0, none⟩), .pointer (some ⟨PO, 0, none⟩)]] w fun e w' => e = .returned (.bool (L.any fun p => seesB k p o)) ∧ Gr w w' := by
  have H := Lib.hid (indexW_any v L o k PK PO w hv h0 h1)
  obtain ⟨q, hq⟩ : ∃ q, q = (L.any fun p => seesB k p o) := ⟨_, rfl⟩
  rw [← hq] at H ⊢
  clear hv h0 h1 hq
  go_enter Tryz.func222, Tryz.ntmps222
  go_wp2_with fail
  refine H.out.mono ?_
  rintro e w1 ⟨r, rfl, hr, g1⟩
  have HG := Lib.hid g1
  have HR := Lib.hid hr
  clear g1 hr
  go_wp2_with fail
  go_ret
  exact ⟨by rw [← HR.out]; rfl, HG.out⟩
/-- Whether a later operation of its own transaction, of that kind, sees the deed. -/
def withinD (k : Int) (d : DD) : Bool := (d.t.ops.drop (d.i + 1)).any fun p => seesB k p d.op
end Go.Proofs.YtnjmgknicffcbaaGreatDoor
namespace Go.Proofs.YtnjmgknicffcbaaGreatDoor
open Go.RowKit Go.Joins
set_option linter.unusedSimpArgs false
set_option linter.unusedVariables false

theorem boxesSw (db dk di : Nat) (k : Int) (w : World) : ∃ W, W = (w.alloc (.cells #[.pointer (some ⟨db, dk, none⟩), .int .i64 (di : Int)] 225)).alloc (.cells #[.int .i64 k] 3) ∧ Gr w W ∧ W.heap.size = w.heap.size + 2 ∧
    W.cell? ⟨w.heap.size, 0, none⟩ = some (.pointer (some ⟨db, dk, none⟩)) ∧ W.cell? ⟨w.heap.size, 1, none⟩ = some (.int .i64 (di : Int)) ∧ W.cell? ⟨w.heap.size + 1, 0, none⟩ = some (.int .i64 k) := by
  have h1 : ((w.alloc (.cells #[.pointer (some ⟨db, dk, none⟩), .int .i64 (di : Int)] 225)).alloc (.cells #[.int .i64 k] 3)).heap[w.heap.size]? = some (.cells #[.pointer (some ⟨db, dk, none⟩), .int .i64 (di : Int)] 225 (0, 0)) := by simp only [World.alloc, Array.getElem?_push, Array.size_push]; simp
  have h2 : ((w.alloc (.cells #[.pointer (some ⟨db, dk, none⟩), .int .i64 (di : Int)] 225)).alloc (.cells #[.int .i64 k] 3)).heap[w.heap.size + 1]? = some (.cells #[.int .i64 k] 3 (0, 0)) := by simp only [World.alloc, Array.getElem?_push, Array.size_push]; simp
  exact ⟨_, rfl, ((Gr.refl w).alloc _).alloc _, by simp, by rw [cell_of_block h1]; rfl, by rw [cell_of_block h1]; rfl, by rw [cell_of_block h2]; rfl⟩
set_option maxRecDepth 100000 in
set_option maxHeartbeats 4000000 in
theorem within_any (d : DD) (k : Int) (w : World) (h : DX w d) :
    Calls Tryz.prog 207 #[.agg #[.pointer (some ⟨d.b, d.o, none⟩), .int .i64 (d.i : Int)], .int .i64 k] w fun e w' => e = .returned (.bool (withinD k d)) ∧ Gr w w' := by
  obtain ⟨q, hq⟩ : ∃ q, q = withinD k d := ⟨_, rfl⟩
  rw [← hq]
  have HQ := Lib.hid hq
  have HDX := Lib.hid h
  have HDO := Lib.hid (fun w1 (g : Gr w w1) => dop_any d w1 (h.gr g))
  obtain ⟨o, ho⟩ : ∃ o, o = d.op := ⟨_, rfl⟩
  rw [← ho] at HDO
  obtain ⟨⟨v, hv, hfx⟩, hi⟩ := h
  have HV := Lib.hid hv
  have HFX := Lib.hid hfx
  obtain ⟨A, c, hvf, hnc, ⟨hcm, -⟩, -⟩ := hv
  subst hvf
  obtain ⟨db, hdb⟩ : ∃ x, x = d.b := ⟨_, rfl⟩
  obtain ⟨dk, hdk⟩ : ∃ x, x = d.o := ⟨_, rfl⟩
  obtain ⟨di, hdi⟩ : ∃ x, x = d.i := ⟨_, rfl⟩
  obtain ⟨n, hn⟩ : ∃ x, x = d.t.ops.length := ⟨_, rfl⟩
  obtain ⟨t, ht⟩ : ∃ x, x = d.t := ⟨_, rfl⟩
  rw [← hn, ← ht] at HV HFX
  rw [← hn] at hnc
  rw [← hdb, ← hdk] at HFX
  have hin : di < n := by rw [hdi, hn]; exact hi
  rw [← hdb, ← hdk, ← hdi] at HDO ⊢
  have HQ2 : Hid (q = ((t.ops.drop (di + 1)).any fun p => seesB k p o)) := Lib.hid (by rw [hq, ht, hdi, ho]; rfl)
  obtain ⟨W, hW, hg, hsz, a0, a1, b0⟩ := boxesSw db dk di k w
  have HG := Lib.hid hg
  have HA := Lib.hid (And.intro a0 (And.intro a1 b0))
  have HSW := Lib.hid hsz
  have HVS := Lib.hid (fun w1 (g : Gr w w1) => (show TOV w1 (.slice (if c = di + 1 then A else A.map (fun x => x.add ((di + 1) * 4))) (n - (di + 1)) (c - (di + 1))) (t.ops.drop (di + 1)) from TOV.drop (TOV.gr HV.out g) (by omega)))
  have hdi0 : (0 : Int) ≤ (di : Int) := Int.natCast_nonneg _
  have hdi1 : (0 : Int) ≤ (di : Int) + 1 := by omega
  have hdn : (di : Int) + 1 ≤ (n : Int) := by omega
  have hc63 : c ≤ 9223372036854775807 := by unfold maxLen at hcm; omega
  have hwd : IntKind.i64.wrap ((di : Int) + 1) = ((di + 1 : Nat) : Int) := by rw [IntKind.wrap_i64]; omega
  have hwd2 : wrap64 ((di : Int) + 1) = ((di + 1 : Nat) : Int) := by unfold wrap64; omega
  clear hq hfx hi hnc hcm hdb hdk hdi hn ht ho hg hsz a0 a1 b0 HQ HDX HV
  go_enter Tryz.func207, Tryz.ntmps207
  go_upto_region 1 with (fail)
  rw [← hW]
  clear hW
  obtain ⟨a0, a1, b0⟩ := HA.out
  go_wp2_with fail
  refine (HDO.out _ HG.out).mono ?_
  rintro e w1 ⟨rfl, g1⟩
  have HG1 := Lib.hid (HG.out.trans g1)
  have HA1 : Hid (w1.cell? ⟨w.heap.size, 0, none⟩ = some (.pointer (some ⟨db, dk, none⟩)) ∧ w1.cell? ⟨w.heap.size, 1, none⟩ = some (.int .i64 (di : Int)) ∧ w1.cell? ⟨w.heap.size + 1, 0, none⟩ = some (.int .i64 k)) := Lib.hid ⟨g1.cell a0, g1.cell a1, g1.cell b0⟩
  clear g1 a0 a1 b0 HA HG
  have hz : (w1.alloc (.cells (opv ⟨0, ⟨#[]⟩, ⟨#[]⟩, 0⟩) 52)).heap[w1.heap.size]? = some (.cells (opv ⟨0, ⟨#[]⟩, ⟨#[]⟩, 0⟩) 52 (0, 0)) := heap_alloc _ _ _
  have z0 : (w1.alloc (.cells (opv ⟨0, ⟨#[]⟩, ⟨#[]⟩, 0⟩) 52)).cell? ⟨w1.heap.size, 0, none⟩ = some (.int .i64 0) := by rw [cell_of_block hz]; rfl
  have z1 : (w1.alloc (.cells (opv ⟨0, ⟨#[]⟩, ⟨#[]⟩, 0⟩) 52)).cell? ⟨w1.heap.size, 1, none⟩ = some (.string ⟨#[]⟩) := by rw [cell_of_block hz]; rfl
  have z2 : (w1.alloc (.cells (opv ⟨0, ⟨#[]⟩, ⟨#[]⟩, 0⟩) 52)).cell? ⟨w1.heap.size, 2, none⟩ = some (.string ⟨#[]⟩) := by rw [cell_of_block hz]; rfl
  have z3 : (w1.alloc (.cells (opv ⟨0, ⟨#[]⟩, ⟨#[]⟩, 0⟩) 52)).cell? ⟨w1.heap.size, 3, none⟩ = some (.int .i64 0) := by rw [cell_of_block hz]; rfl
  have k0 := unfrozen_of_block hz 0
  have k1 := unfrozen_of_block hz 1
  have k2 := unfrozen_of_block hz 2
  have k3 := unfrozen_of_block hz 3
  go_upto_region 2 with (fail)
  clear z0 z1 z2 z3 k0 k1 k2 k3 hz
  obtain ⟨w2, hw2, hg2, ho2⟩ := opbox w1 o
  change Code.wp Tryz.prog _ _ _ (w1.alloc (.cells (opv o) 52))
  rw [← hw2]
  clear hw2
  have HG2 := Lib.hid (HG1.out.trans hg2)
  have HA2 : Hid (w2.cell? ⟨w.heap.size, 0, none⟩ = some (.pointer (some ⟨db, dk, none⟩)) ∧ w2.cell? ⟨w.heap.size, 1, none⟩ = some (.int .i64 (di : Int)) ∧ w2.cell? ⟨w.heap.size + 1, 0, none⟩ = some (.int .i64 k)) := Lib.hid ⟨hg2.cell HA1.out.1, hg2.cell HA1.out.2.1, hg2.cell HA1.out.2.2⟩
  have HO2 := Lib.hid ho2
  have HF2 := Lib.hid (HFX.out.gr HG2.out)
  have HCN := Lib.hid (fun w3 (g : Gr w2 w3) (x0 : w3.cell? ⟨w.heap.size + 1, 0, none⟩ = some (.int .i64 k)) => containsW_any (.slice (if c = di + 1 then A else A.map (fun x => x.add ((di + 1) * 4))) (n - (di + 1)) (c - (di + 1))) (t.ops.drop (di + 1)) o k (w.heap.size + 1) w1.heap.size w3 (HVS.out w3 (HG2.out.trans g)) x0 (TCell.gr HO2.out g))
  rw [← HQ2.out] at HCN
  have hmf : ∀ (fn : Fn) (first cap : Array Value) (w : World), (Instr.makeFunc fn first cap).run Tryz.prog w = .ok (.func fn first cap) w := fun _ _ _ _ => rfl
  clear hg2 ho2 HA1 HG1 HFX HVS
  refine qRegion (fun w' => w'.cell? ⟨w.heap.size, 0, none⟩ = some (.pointer (some ⟨db, dk, none⟩)) ∧ w'.cell? ⟨w.heap.size, 1, none⟩ = some (.int .i64 (di : Int)) ∧ w'.cell? ⟨w.heap.size + 1, 0, none⟩ = some (.int .i64 k) ∧ XFix w' db dk t (.slice A n c) ∧ Gr w2 w') (by kernel_rfl) (by kernel_rfl) ⟨(Gr.refl _).drew.cell HA2.out.1, (Gr.refl _).drew.cell HA2.out.2.1, (Gr.refl _).drew.cell HA2.out.2.2, HF2.out.gr (Gr.refl _).drew, (Gr.refl _).drew⟩ ?_
  iterate 10
    refine qTake (by kernel_rfl) ?_
    apply Exists.intro
    refine ⟨fun wq hq => ?_, ?_⟩
    · go_light
      obtain ⟨a0, a1, b0, ⟨x0, x1, x2, x3, x4, x5, x6, x7, x8, x9, x10, x11⟩, -⟩ := hq
      go_simp
      try with_reducible rfl
      done
    try simp only [Act.put, List.setIfInBounds_toArray, List.set_cons_zero, List.set_cons_succ]
  refine qCall (by kernel_rfl) ?_
  apply Exists.intro
  refine ⟨?_, ?_⟩
  · apply Exists.intro
    apply Exists.intro
    refine ⟨fun wq => ?_, fun wq hq => ?_⟩
    · go_light
      go_simp
      exact ⟨rfl, rfl⟩
    · exact (HCN.out wq hq.2.2.2.2 hq.2.2.1).mono fun e w'' ⟨he, hg⟩ => ⟨he, hg.cell hq.1, hg.cell hq.2.1, hg.cell hq.2.2.1, hq.2.2.2.1.gr hg, hq.2.2.2.2.trans hg⟩
  try simp only [Act.put, List.setIfInBounds_toArray, List.set_cons_zero, List.set_cons_succ]
  iterate 1
    refine qTake (by kernel_rfl) ?_
    apply Exists.intro
    refine ⟨fun wq hq => ?_, ?_⟩
    · go_light
      obtain ⟨a0, a1, b0, ⟨x0, x1, x2, x3, x4, x5, x6, x7, x8, x9, x10, x11⟩, -⟩ := hq
      go_simp
      try with_reducible rfl
      done
    try simp only [Act.put, List.setIfInBounds_toArray, List.set_cons_zero, List.set_cons_succ]
  refine qNil ?_
  rintro w3 ⟨-, -, -, -, hg3⟩
  have HG3 := Lib.hid (HG2.out.trans hg3)
  clear hg3
  go_wp2_with fail
  all_goals go_ret
  all_goals exact ⟨rfl, HG3.out⟩
end Go.Proofs.YtnjmgknicffcbaaGreatDoor
