/- Walks over the document's answer of package rule: Find, pair, one, Check. -/
import Derived.Test.YtioldhhnkeakcaaDoorRuJ
import Derived.Test.YtioldhhnkeakcaaDoorRuN
import Derived.Test.YtioldhhnkeakcaaDoorQuiet
namespace Go.Proofs.YtioldhhnkeakcaaDoor
open Go.RowKit Go.Joins
set_option linter.unusedSimpArgs false
set_option linter.unusedVariables false

theorem nil_empty2 : (⟨#[]⟩ : ByteArray).toList.isEmpty = true := by rw [ByteArray.toList_eq]; rfl
/-- A rule's five cells at a block's beginning. -/
def RC5 (w : World) (b : Nat) (r : RU) : Prop := w.cell? ⟨b, 0, none⟩ = some (.int .i64 r.k) ∧ w.cell? ⟨b, 1, none⟩ = some (.string r.key) ∧ w.cell? ⟨b, 2, none⟩ = some (.string r.other) ∧ w.cell? ⟨b, 3, none⟩ = some (.int .i64 r.min) ∧ w.cell? ⟨b, 4, none⟩ = some (.int .i64 r.start)
theorem RC5.gr {w w' : World} {b : Nat} {r : RU} (h : RC5 w b r) (g : Gr w w') : RC5 w' b r := ⟨g.cell h.1, g.cell h.2.1, g.cell h.2.2.1, g.cell h.2.2.2.1, g.cell h.2.2.2.2⟩
theorem RBox.c5 {w : World} {b : Nat} {r : RU} (h : RBox w b r) : RC5 w b r := ⟨obj_cell h rfl, obj_cell h rfl, obj_cell h rfl, obj_cell h rfl, obj_cell h rfl⟩
theorem rubox5 (w : World) (r : RU) : ∃ W, W = w.alloc (.cells (ruv r) 39) ∧ Gr w W ∧ RC5 W w.heap.size r := ⟨_, rfl, (Gr.refl w).alloc _, RBox.c5 (heap_allocR _ _ _)⟩
set_option maxRecDepth 100000 in
set_option maxHeartbeats 1000000 in
theorem rfind_any (v : Value) (L : List RU) (key : ByteArray) (w : World) (hv : UV w v L) :
    Calls Tryd.prog 21 #[v, .string key] w fun e w' => e = .returned (.int .i64 (fInt L key)) ∧ Gr w w' := by
  obtain ⟨A, c, rfl, l1, ⟨l2, _⟩, l3⟩ := hv
  have l2' : c ≤ 9223372036854775807 := l2
  have HAT := Lib.hid l3
  obtain ⟨n, hn⟩ : ∃ n, n = L.length := ⟨_, rfl⟩
  have HN := Lib.hid hn
  rw [← hn] at l1 ⊢
  clear hn l3 l2
  go_enter Tryd.func21, Tryd.ntmps21
  go_wp2_with fail
  go_loopw [5] (fun i wr => ∃ j : Nat, j ≤ n ∧ i = .int .i64 (j : Int) ∧ wr = w ∧ Hid (∀ q (hq : q < L.length), q < j → isF key L[q] = false)) (fun i _ => n - (intOf i).toNat)
  case atStart => exact ⟨0, Nat.zero_le _, rfl, rfl, Lib.hid (fun _ _ h => absurd h (Nat.not_lt_zero _))⟩
  case round =>
    obtain ⟨j, hj, rfl, rfl, HAL⟩ := hrel
    by_cases hlt : j < n
    · have hjL : j < L.length := by rw [← HN.out]; exact hlt
      obtain ⟨b, off, rfl, c0, c1, c2, c3, c4⟩ := HAT.out j hjL
      obtain ⟨f, hf⟩ : ∃ f, f = L[j] := ⟨_, rfl⟩
      rw [← hf] at c0 c1 c2 c3 c4
      have u0 : (0 : Int) ≤ (j : Int) := by omega
      have u1 : (j : Int) < (n : Int) := by omega
      have u2 : wrap64 ((j : Int) + 1) = ((j + 1 : Nat) : Int) := by unfold wrap64; omega
      obtain ⟨q, hq⟩ : ∃ q, q = eqS f.key key := ⟨_, rfl⟩
      have hqe : (f.key.toList == key.toList) = q := hq.symm
      have next : isF key f = false → Hid (∀ q (hq : q < L.length), q < j + 1 → isF key L[q] = false) := fun hz => Lib.hid fun q hqq hjk => by
        by_cases e : q = j
        · subst e; rw [← hf]; exact hz
        · exact HAL.out q hqq (by omega)
      by_cases h1 : 1 ≤ f.k
      · have h1' : decide (1 ≤ f.k) = true := decide_eq_true h1
        by_cases h2 : f.k ≤ 8
        · have h2' : decide (f.k ≤ 8) = true := decide_eq_true h2
          have hz : isF key f = q := by unfold isF knB; rw [h1', h2', hq]; rfl
          rcases q with _ | _
          · have HX := next hz
            clear hq hf next hz hjL
            go_wp2_with fail
            go_roundw
            case rel => exact ⟨j + 1, by omega, by go_num, by trivial, HX⟩
            case measure => simp [intOf]; omega
          · have HI : Hid (fInt L key = (j : Int)) := Lib.hid (fInt_some (fIdx_some.2 ⟨hjL, by rw [← hf]; exact hz, HAL.out⟩))
            clear hq hf next hz hjL
            go_wp2_with fail
            go_ret
            exact ⟨by rw [HI.out]; rfl, Gr.refl _⟩
        · have h2' : decide (f.k ≤ 8) = false := decide_eq_false h2
          have HX := next (by unfold isF knB; rw [h1', h2']; rfl)
          clear hq hf next hjL
          go_wp2_with fail
          go_roundw
          case rel => exact ⟨j + 1, by omega, by go_num, by trivial, HX⟩
          case measure => simp [intOf]; omega
      · have h1' : decide (1 ≤ f.k) = false := decide_eq_false h1
        have HX := next (by unfold isF knB; rw [h1']; rfl)
        clear hq hf next hjL
        go_wp2_with fail
        go_roundw
        case rel => exact ⟨j + 1, by omega, by go_num, by trivial, HX⟩
        case measure => simp [intOf]; omega
    · have HI : Hid (fInt L key = -1) := Lib.hid (fInt_none (fIdx_none.2 fun x hx => by obtain ⟨i, hi, rfl⟩ := List.mem_iff_getElem.1 hx; exact HAL.out i hi (by rw [← HN.out] at hi; omega)))
      have u1 : ¬ (j : Int) < (n : Int) := by omega
      go_wp2_with fail
      go_ret
      exact ⟨by rw [HI.out]; rfl, Gr.refl _⟩
theorem ramount_any (n : Int) (w : World) :
    Calls Tryd.prog 58 #[.int .i64 n] w fun e w' => e = .returned (.bool (inAB n)) ∧ Gr w w' := by
  by_cases h1 : -1099511627776 ≤ n
  · have d1 : decide (-1099511627776 ≤ n) = true := decide_eq_true h1
    by_cases h2 : n ≤ 1099511627776
    · have d2 : decide (n ≤ 1099511627776) = true := decide_eq_true h2
      have HB : Hid (inAB n = true) := Lib.hid (by unfold inAB; rw [d1, d2]; rfl)
      go_enter Tryd.func58, Tryd.ntmps58
      go_wp2_with fail
      go_ret
      exact ⟨by rw [HB.out]; rfl, Gr.refl _⟩
    · have d2 : decide (n ≤ 1099511627776) = false := decide_eq_false h2
      have HB : Hid (inAB n = false) := Lib.hid (by unfold inAB; rw [d1, d2]; rfl)
      go_enter Tryd.func58, Tryd.ntmps58
      go_wp2_with fail
      go_ret
      exact ⟨by rw [HB.out]; rfl, Gr.refl _⟩
  · have d1 : decide (-1099511627776 ≤ n) = false := decide_eq_false h1
    have HB : Hid (inAB n = false) := Lib.hid (by unfold inAB; rw [d1]; rfl)
    go_enter Tryd.func58, Tryd.ntmps58
    go_wp2_with fail
    go_ret
    exact ⟨by rw [HB.out]; rfl, Gr.refl _⟩
set_option maxRecDepth 100000 in
set_option maxHeartbeats 1000000 in
theorem rpair_any (v : Value) (L : List RU) (r : RU) (kind : Int) (w : World) (hv : UV w v L) :
    Calls Tryd.prog 59 #[v, .agg (ruv r), .int .i64 kind] w fun e w' => e = .returned (.bool (pairB L r kind)) ∧ Gr w w' := by
  obtain ⟨W, hW, hg, hr⟩ := rubox5 w r
  have HG := Lib.hid hg
  have HR := Lib.hid hr
  have HFA := Lib.hid (fun w1 (g : Gr W w1) => rfind_any v L r.key w1 (hv.gr (hg.trans g)))
  have HFB := Lib.hid (fun w1 (g : Gr W w1) => rfind_any v L r.other w1 (hv.gr (hg.trans g)))
  obtain ⟨A, c, rfl, l1, ⟨l2, _⟩, l3⟩ := hv
  have l2' : c ≤ 9223372036854775807 := l2
  have HAT := Lib.hid l3
  obtain ⟨n, hn⟩ : ∃ n, n = L.length := ⟨_, rfl⟩
  have HN := Lib.hid hn
  rw [← hn] at l1 HFA HFB ⊢
  clear hn l3 l2 hg hr
  cases ha : fIdx L r.key with
  | none =>
    have HZ : Hid (pairB L r kind = false) := Lib.hid (by unfold pairB; rw [ha])
    rw [fInt_none ha] at HFA
    obtain ⟨fb, hfb⟩ : ∃ x, x = fInt L r.other := ⟨_, rfl⟩
    rw [← hfb] at HFB
    clear ha hfb
    go_enter Tryd.func59, Tryd.ntmps59
    go_upto_region 1 with (fail)
    rw [← hW]
    clear hW
    refine qRegion (fun w' => RC5 w' w.heap.size r ∧ Gr W w') (by kernel_rfl) (by kernel_rfl) ⟨HR.out.gr (Gr.refl _).drew, (Gr.refl _).drew⟩ ?_
    iterate 3
      refine qTake (by kernel_rfl) ?_
      apply Exists.intro
      refine ⟨fun wq hq => ?_, ?_⟩
      · go_light
        obtain ⟨⟨q0, q1, q2, q3, q4⟩, hg⟩ := hq
        go_simp
        try with_reducible rfl
        done
      try simp only [Act.put, List.setIfInBounds_toArray, List.set_cons_zero, List.set_cons_succ]
    refine qCall (by kernel_rfl) ?_
    apply Exists.intro
    refine ⟨?_, ?_⟩
    · apply Exists.intro
      apply Exists.intro
      refine ⟨fun wq => ?_, fun wq hq => ?_⟩
      · go_light
        go_simp
        exact ⟨rfl, rfl⟩
      · exact (HFA.out wq hq.2).mono fun e w'' ⟨he, hg⟩ => ⟨he, hq.1.gr hg, hq.2.trans hg⟩
    try simp only [Act.put, List.setIfInBounds_toArray, List.set_cons_zero, List.set_cons_succ]
    iterate 3
      refine qTake (by kernel_rfl) ?_
      apply Exists.intro
      refine ⟨fun wq hq => ?_, ?_⟩
      · go_light
        obtain ⟨⟨q0, q1, q2, q3, q4⟩, hg⟩ := hq
        go_simp
        try with_reducible rfl
        done
      try simp only [Act.put, List.setIfInBounds_toArray, List.set_cons_zero, List.set_cons_succ]
    refine qCall (by kernel_rfl) ?_
    apply Exists.intro
    refine ⟨?_, ?_⟩
    · apply Exists.intro
      apply Exists.intro
      refine ⟨fun wq => ?_, fun wq hq => ?_⟩
      · go_light
        go_simp
        exact ⟨rfl, rfl⟩
      · exact (HFB.out wq hq.2).mono fun e w'' ⟨he, hg⟩ => ⟨he, hq.1.gr hg, hq.2.trans hg⟩
    try simp only [Act.put, List.setIfInBounds_toArray, List.set_cons_zero, List.set_cons_succ]
    iterate 2
      refine qTake (by kernel_rfl) ?_
      apply Exists.intro
      refine ⟨fun wq hq => ?_, ?_⟩
      · go_light
        obtain ⟨⟨q0, q1, q2, q3, q4⟩, hg⟩ := hq
        go_simp
        try with_reducible rfl
        done
      try simp only [Act.put, List.setIfInBounds_toArray, List.set_cons_zero, List.set_cons_succ]
    refine qNil ?_
    intro w3 hC
    have HG3 := Lib.hid (HG.out.trans hC.2)
    clear hC
    go_wp2_with fail
    go_ret
    exact ⟨by rw [HZ.out]; rfl, HG3.out⟩
  | some a =>
    obtain ⟨hal, -, -⟩ := fIdx_some.1 ha
    rw [fInt_some ha] at HFA
    obtain ⟨b1, off1, rfl, ca⟩ := HAT.out a hal
    have HCA := Lib.hid ca
    have ta0 : (0 : Int) ≤ (a : Int) := by omega
    have ta1 : (a : Int) < (n : Int) := by rw [HN.out]; omega
    cases hb : fIdx L r.other with
    | none =>
      have HZ : Hid (pairB L r kind = false) := Lib.hid (by unfold pairB; rw [ha, hb])
      rw [fInt_none hb] at HFB
      clear ha hb ca HCA hal
      go_enter Tryd.func59, Tryd.ntmps59
      go_upto_region 1 with (fail)
      rw [← hW]
      clear hW
      refine qRegion (fun w' => RC5 w' w.heap.size r ∧ Gr W w') (by kernel_rfl) (by kernel_rfl) ⟨HR.out.gr (Gr.refl _).drew, (Gr.refl _).drew⟩ ?_
      iterate 3
        refine qTake (by kernel_rfl) ?_
        apply Exists.intro
        refine ⟨fun wq hq => ?_, ?_⟩
        · go_light
          obtain ⟨⟨q0, q1, q2, q3, q4⟩, hg⟩ := hq
          go_simp
          try with_reducible rfl
          done
        try simp only [Act.put, List.setIfInBounds_toArray, List.set_cons_zero, List.set_cons_succ]
      refine qCall (by kernel_rfl) ?_
      apply Exists.intro
      refine ⟨?_, ?_⟩
      · apply Exists.intro
        apply Exists.intro
        refine ⟨fun wq => ?_, fun wq hq => ?_⟩
        · go_light
          go_simp
          exact ⟨rfl, rfl⟩
        · exact (HFA.out wq hq.2).mono fun e w'' ⟨he, hg⟩ => ⟨he, hq.1.gr hg, hq.2.trans hg⟩
      try simp only [Act.put, List.setIfInBounds_toArray, List.set_cons_zero, List.set_cons_succ]
      iterate 3
        refine qTake (by kernel_rfl) ?_
        apply Exists.intro
        refine ⟨fun wq hq => ?_, ?_⟩
        · go_light
          obtain ⟨⟨q0, q1, q2, q3, q4⟩, hg⟩ := hq
          go_simp
          try with_reducible rfl
          done
        try simp only [Act.put, List.setIfInBounds_toArray, List.set_cons_zero, List.set_cons_succ]
      refine qCall (by kernel_rfl) ?_
      apply Exists.intro
      refine ⟨?_, ?_⟩
      · apply Exists.intro
        apply Exists.intro
        refine ⟨fun wq => ?_, fun wq hq => ?_⟩
        · go_light
          go_simp
          exact ⟨rfl, rfl⟩
        · exact (HFB.out wq hq.2).mono fun e w'' ⟨he, hg⟩ => ⟨he, hq.1.gr hg, hq.2.trans hg⟩
      try simp only [Act.put, List.setIfInBounds_toArray, List.set_cons_zero, List.set_cons_succ]
      iterate 2
        refine qTake (by kernel_rfl) ?_
        apply Exists.intro
        refine ⟨fun wq hq => ?_, ?_⟩
        · go_light
          obtain ⟨⟨q0, q1, q2, q3, q4⟩, hg⟩ := hq
          go_simp
          try with_reducible rfl
          done
        try simp only [Act.put, List.setIfInBounds_toArray, List.set_cons_zero, List.set_cons_succ]
      refine qNil ?_
      intro w3 hC
      have HG3 := Lib.hid (HG.out.trans hC.2)
      clear hC
      go_wp2_with fail
      go_ret
      exact ⟨by rw [HZ.out]; rfl, HG3.out⟩
    | some b =>
      obtain ⟨hbl, -, -⟩ := fIdx_some.1 hb
      rw [fInt_some hb] at HFB
      obtain ⟨b2, off2, hA2, cb⟩ := HAT.out b hbl
      injection hA2 with hA2
      injection hA2 with e1 e2
      subst e1 e2
      have HCB := Lib.hid cb
      have tb0 : (0 : Int) ≤ (b : Int) := by omega
      have tb1 : (b : Int) < (n : Int) := by rw [HN.out]; omega
      obtain ⟨xa, hxa⟩ : ∃ x, x = L[a] := ⟨_, rfl⟩
      obtain ⟨xb, hxb⟩ : ∃ x, x = L[b] := ⟨_, rfl⟩
      rw [← hxa] at HCA
      rw [← hxb] at HCB
      obtain ⟨z0, hz0⟩ : ∃ z, z = decide (a ≠ b) := ⟨_, rfl⟩
      obtain ⟨z1, hz1⟩ : ∃ z, z = decide (xa.k = kind) := ⟨_, rfl⟩
      obtain ⟨z2, hz2⟩ : ∃ z, z = decide (xb.k = kind) := ⟨_, rfl⟩
      have e0 : ((a : Int) != (b : Int)) = z0 := by
        rw [hz0, bne, int_beqR]
        by_cases h : a = b
        · subst h; simp
        · rw [decide_eq_true h, decide_eq_false (by omega)]; rfl
      have e1 : (xa.k == kind) = z1 := by rw [int_beqR, hz1]
      have e2 : (xb.k == kind) = z2 := by rw [int_beqR, hz2]
      have HZ : Hid (pairB L r kind = (z0 && z1 && z2)) := Lib.hid (by
        unfold pairB
        rw [ha, hb]
        simp only [List.getD_eq_getElem?_getD, List.getElem?_eq_getElem hal, List.getElem?_eq_getElem hbl, Option.getD_some]
        rw [hz0, hz1, hz2, hxa, hxb])
      clear ha hb ca cb hal hbl hxa hxb hz0 hz1 hz2
      go_enter Tryd.func59, Tryd.ntmps59
      go_upto_region 1 with (fail)
      rw [← hW]
      clear hW
      refine qRegion (fun w' => RC5 w' w.heap.size r ∧ Gr W w') (by kernel_rfl) (by kernel_rfl) ⟨HR.out.gr (Gr.refl _).drew, (Gr.refl _).drew⟩ ?_
      iterate 3
        refine qTake (by kernel_rfl) ?_
        apply Exists.intro
        refine ⟨fun wq hq => ?_, ?_⟩
        · go_light
          obtain ⟨⟨q0, q1, q2, q3, q4⟩, hg⟩ := hq
          go_simp
          try with_reducible rfl
          done
        try simp only [Act.put, List.setIfInBounds_toArray, List.set_cons_zero, List.set_cons_succ]
      refine qCall (by kernel_rfl) ?_
      apply Exists.intro
      refine ⟨?_, ?_⟩
      · apply Exists.intro
        apply Exists.intro
        refine ⟨fun wq => ?_, fun wq hq => ?_⟩
        · go_light
          go_simp
          exact ⟨rfl, rfl⟩
        · exact (HFA.out wq hq.2).mono fun e w'' ⟨he, hg⟩ => ⟨he, hq.1.gr hg, hq.2.trans hg⟩
      try simp only [Act.put, List.setIfInBounds_toArray, List.set_cons_zero, List.set_cons_succ]
      iterate 3
        refine qTake (by kernel_rfl) ?_
        apply Exists.intro
        refine ⟨fun wq hq => ?_, ?_⟩
        · go_light
          obtain ⟨⟨q0, q1, q2, q3, q4⟩, hg⟩ := hq
          go_simp
          try with_reducible rfl
          done
        try simp only [Act.put, List.setIfInBounds_toArray, List.set_cons_zero, List.set_cons_succ]
      refine qCall (by kernel_rfl) ?_
      apply Exists.intro
      refine ⟨?_, ?_⟩
      · apply Exists.intro
        apply Exists.intro
        refine ⟨fun wq => ?_, fun wq hq => ?_⟩
        · go_light
          go_simp
          exact ⟨rfl, rfl⟩
        · exact (HFB.out wq hq.2).mono fun e w'' ⟨he, hg⟩ => ⟨he, hq.1.gr hg, hq.2.trans hg⟩
      try simp only [Act.put, List.setIfInBounds_toArray, List.set_cons_zero, List.set_cons_succ]
      iterate 2
        refine qTake (by kernel_rfl) ?_
        apply Exists.intro
        refine ⟨fun wq hq => ?_, ?_⟩
        · go_light
          obtain ⟨⟨q0, q1, q2, q3, q4⟩, hg⟩ := hq
          go_simp
          try with_reducible rfl
          done
        try simp only [Act.put, List.setIfInBounds_toArray, List.set_cons_zero, List.set_cons_succ]
      refine qNil ?_
      intro w3 hC
      have HG3 := Lib.hid (HG.out.trans hC.2)
      obtain ⟨a0, -, -, -, -⟩ := HCA.out.gr HG3.out
      obtain ⟨b0, -, -, -, -⟩ := HCB.out.gr HG3.out
      clear hC
      rcases z0 with _ | _
      · go_wp2_with fail
        go_ret
        exact ⟨by rw [HZ.out]; rfl, HG3.out⟩
      · rcases z1 with _ | _
        · go_wp2_with fail
          go_ret
          exact ⟨by rw [HZ.out]; rfl, HG3.out⟩
        · go_wp2_with fail
          go_ret
          exact ⟨by rw [HZ.out]; first | rfl | simp, HG3.out⟩
end Go.Proofs.YtioldhhnkeakcaaDoor
