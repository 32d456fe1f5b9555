/- Walk: the program's paid. -/
import Derived.Test.YtnjmgknicffcbaaGreatDoorZr46
import Derived.Test.YtnjmgknicffcbaaGreatDoorZr38
namespace Go.Proofs.YtnjmgknicffcbaaGreatDoor
open Go.RowKit Go.Joins
set_option linter.unusedSimpArgs false
set_option linter.unusedVariables false

set_option maxRecDepth 100000 in
set_option maxHeartbeats 8000000 in
theorem paid_any (v vo : Value) (L : List RU) (m : Int) (ops : List TO) (o : TO) (hes : o.elem.size ≤ 281474976710656) (w : World) (hv : UV w v L) (ho : TOV w vo ops) (hp : Laid w) :
    Calls Tryz.prog 70 #[v, .int .i64 m, vo, .agg (tovs o)] w fun e w' => e = .returned (.bool (paidB L m ops o)) ∧ Gr w w' := by
  obtain ⟨W, hW, hgW, hbW⟩ := obox4 w o
  have HG1 := Lib.hid hgW
  have HB1 := Lib.hid hbW
  have HRU := Lib.hid (fun w1 (g : Gr w w1) => ruleOf_any v L o.key w1 (hv.gr g))
  have HOW := Lib.hid (fun w1 (g : Gr w w1) => ownID_any m o.elem hes w1 (hp.gr g))
  have HCN := Lib.hid (fun y w1 (g : Gr w w1) => containsO_any vo ops y w1 (ho.gr g))
  obtain ⟨z8, hz8⟩ : ∃ z, z = decide ((ruleR L o.key).k = 8) := ⟨_, rfl⟩
  obtain ⟨zo, hzo⟩ : ∃ z, z = ownB m o.elem := ⟨_, rfl⟩
  have e8 : ((ruleR L o.key).k == 8) = z8 := by rw [int_beqR, hz8]
  have fa := fun w => fld0 (ruleR L o.key) w
  rw [← hzo] at HOW
  obtain ⟨A, c, rfl, l1, ⟨l2, _⟩, l3⟩ := hv
  have l2' : c ≤ 9223372036854775807 := l2
  have HRC := Lib.hid l3
  obtain ⟨n, hn⟩ : ∃ n, n = L.length := ⟨_, rfl⟩
  have HNL := Lib.hid hn
  rw [← hn] at l1 HRU ⊢
  obtain ⟨c0, c1, c2, c3⟩ := hbW.c4
  clear hn l3 l2 hgW hbW hp ho hes
  unfold tovs
  by_cases h4 : o.kind = 4
  · have k4b : (o.kind == 4) = true := by rw [h4]; rfl
    have HRE : Hid (revO o = some ⟨5, o.key, o.elem, 0⟩) := Lib.hid (by unfold revO; rw [if_pos h4])
    have HRV : Hid (∀ w1, Gr w w1 → Calls Tryz.prog 119 #[.agg #[.int .i64 o.kind, .string o.key, .string o.elem, .int .i64 o.n]] w1 fun e w' => e = .returned (.tuple #[.agg #[.int .i64 5, .string o.key, .string o.elem, .int .i64 0], .bool true]) ∧ Gr w1 w') := Lib.hid (fun w1 g => by have := reverse_any o w1; rw [HRE.out] at this; exact this)
    have HB4 : Hid (badId L m o = (z8 && !zo)) := Lib.hid (by unfold badId; rw [decide_eq_true h4, hz8, hzo]; rfl)
    clear h4 hz8 hzo
    go_enter Tryz.func70, Tryz.ntmps70
    go_upto_region 1 with (fail)
    change Code.wp Tryz.prog _ _ _ (w.alloc (.cells (tovs o) 52))
    rw [← hW]
    clear hW
    go_wp2_with fail
    refine (HRU.out _ HG1.out).mono ?_
    rintro e w2 ⟨rfl, g⟩
    have HG2 := Lib.hid (HG1.out.trans g)
    have HB2 := Lib.hid (HB1.out.gr g)
    clear g c0 c1 c2 c3
    obtain ⟨c0, c1, c2, c3⟩ := HB2.out.c4
    rcases z8 with _ | _
    · have HBI : Hid (badId L m o = false) := Lib.hid (by rw [HB4.out]; rfl)
      go_upto_region 3 with (fail)
      go_wp2_with fail
      refine (HRV.out _ HG2.out).mono ?_
      rintro e w3 ⟨rfl, g⟩
      go_upto_region 4 with (fail)
      obtain ⟨WR, hWR, hgR, hbR⟩ := obox4 w3 ⟨5, o.key, o.elem, 0⟩
      change Code.wp Tryz.prog _ _ _ (w3.alloc (.cells (tovs ⟨5, o.key, o.elem, 0⟩) 52))
      rw [← hWR]
      have HGN := Lib.hid ((HG2.out.trans g).trans hgR)
      have HBN := Lib.hid ((HB2.out.gr g).gr hgR)
      obtain ⟨y0, y1, y2, y3⟩ := hbR.c4
      clear hWR hgR hbR g c0 c1 c2 c3
      obtain ⟨c0, c1, c2, c3⟩ := HBN.out.c4
      have HCO := Lib.hid (HCN.out ⟨5, o.key, o.elem, 0⟩ WR HGN.out)
      unfold tovs at HCO
      rcases hq : hasO ops ⟨5, o.key, o.elem, 0⟩ with _ | _
      · rw [hq] at HCO
        have HPRE : Hid ((!badId L m o) = true ∧ (!opposeB ops (revO o)) = true) := Lib.hid ⟨by rw [HBI.out]; rfl, by rw [HRE.out]; show (!hasO ops ⟨5, o.key, o.elem, 0⟩) = true; rw [hq]; rfl⟩
        clear hq
        go_wp2_with fail
        refine HCO.out.mono ?_
        rintro e w9 ⟨rfl, g⟩
        have HGN := Lib.hid (HGN.out.trans g)
        have HBN := Lib.hid (HBN.out.gr g)
        clear g y0 y1 y2 y3 c0 c1 c2 c3
        obtain ⟨c0, c1, c2, c3⟩ := HBN.out.c4
        go_wp2_with fail
        go_loopw [12, 13, 14, 46] (fun s12 s13 s14 i wr => ∃ j : Nat, j ≤ n ∧ i = .int .i64 (j : Int) ∧ Gr w wr ∧ OBox wr w.heap.size o ∧ Hid (∀ q (hq : q < L.length), q < j → owesB ops (debtO L[q] o) = true)) (fun s12 s13 s14 i _ => n - (intOf i).toNat)
        case atStart => exact ⟨0, Nat.zero_le _, rfl, HGN.out, HBN.out, Lib.hid (fun _ _ h => absurd h (Nat.not_lt_zero _))⟩
        case round =>
          clear c0 c1 c2 c3
          obtain ⟨j, hj, rfl, hgr, hbo, HAL⟩ := hrel
          have HGR := Lib.hid hgr
          by_cases hlt : j < n
          · have hjL : j < L.length := by rw [← HNL.out]; exact hlt
            obtain ⟨b', off', hA, q5⟩ := HRC.out j hjL
            subst hA
            obtain ⟨f, hf⟩ : ∃ f, f = L[j] := ⟨_, rfl⟩
            rw [← hf] at q5
            obtain ⟨a0, a1, a2, a3, a4⟩ := q5.gr hgr
            have HF := Lib.hid hf
            have u0 : (0 : Int) ≤ (j : Int) := by omega
            have u1 : (j : Int) < (n : Int) := by omega
            have u2 : wrap64 ((j : Int) + 1) = ((j + 1 : Nat) : Int) := by unfold wrap64; omega
            obtain ⟨W1, hW1, hg1, hr1⟩ := rubox5 wr f
            have HGA := Lib.hid (hgr.trans hg1)
            have HBA := Lib.hid (hbo.gr hg1)
            have HDB := Lib.hid (debt_any f o W1)
            clear hf q5
            go_upto_region 9 with (fail)
            change Code.wp Tryz.prog _ _ _ (wr.alloc (.cells (ruv f) 49))
            rw [← hW1]
            clear hW1 hg1 hgr hbo a0 a1 a2 a3 a4
            obtain ⟨r0, r1, r2, r3, r4⟩ := hr1
            obtain ⟨d0, d1, d2, d3⟩ := HBA.out.c4
            cases hd : debtO f o with
            | none =>
              rw [hd] at HDB
              have HDB : Hid (Calls Tryz.prog 121 #[.agg #[.int .i64 f.k, .string f.key, .string f.other, .int .i64 f.min, .int .i64 f.start], .agg #[.int .i64 o.kind, .string o.key, .string o.elem, .int .i64 o.n]] W1 fun e w' => e = .returned (.tuple #[.agg #[.int .i64 0, .string ⟨#[]⟩, .string ⟨#[]⟩, .int .i64 0], .bool false]) ∧ Gr W1 w') := HDB
              have HX : Hid (∀ q (hq : q < L.length), q < j + 1 → owesB ops (debtO L[q] o) = true) := Lib.hid fun q hqq hjk => by
                by_cases e : q = j
                · subst e; rw [← HF.out, hd]; rfl
                · exact HAL.out q hqq (by omega)
              go_wp2_with fail
              refine HDB.out.mono ?_
              rintro e w5 ⟨rfl, g5⟩
              go_upto_region 10 with (fail)
              obtain ⟨W6, hW6, hg6, hb6⟩ := obox4 w5 zO
              change Code.wp Tryz.prog _ _ _ (w5.alloc (.cells (tovs zO) 52))
              rw [← hW6]
              have HG6 := Lib.hid ((HGA.out.trans g5).trans hg6)
              have HB6 := Lib.hid ((HBA.out.gr g5).gr hg6)
              clear hd hW6 hg6 hb6 g5 r0 r1 r2 r3 r4 d0 d1 d2 d3
              go_wp2_with fail
              go_roundw
              case rel => exact ⟨j + 1, by omega, by go_num, HG6.out, HB6.out, HX⟩
              case measure => simp [intOf]; omega
            | some y =>
              rw [hd] at HDB
              have HDB : Hid (Calls Tryz.prog 121 #[.agg #[.int .i64 f.k, .string f.key, .string f.other, .int .i64 f.min, .int .i64 f.start], .agg #[.int .i64 o.kind, .string o.key, .string o.elem, .int .i64 o.n]] W1 fun e w' => e = .returned (.tuple #[.agg #[.int .i64 y.kind, .string y.key, .string y.elem, .int .i64 y.n], .bool true]) ∧ Gr W1 w') := HDB
              go_wp2_with fail
              refine HDB.out.mono ?_
              rintro e w5 ⟨rfl, g5⟩
              go_upto_region 10 with (fail)
              obtain ⟨W6, hW6, hg6, hb6⟩ := obox4 w5 y
              change Code.wp Tryz.prog _ _ _ (w5.alloc (.cells (tovs y) 52))
              rw [← hW6]
              have HG6 := Lib.hid ((HGA.out.trans g5).trans hg6)
              have HB6 := Lib.hid ((HBA.out.gr g5).gr hg6)
              obtain ⟨y0, y1, y2, y3⟩ := hb6.c4
              have HCO := Lib.hid (HCN.out y W6 HG6.out)
              unfold tovs at HCO
              have HD := Lib.hid hd
              clear hd hW6 hg6 hb6 g5 r0 r1 r2 r3 r4 d0 d1 d2 d3
              rcases hq : hasO ops y with _ | _
              · rw [hq] at HCO
                have HZF : Hid (paidB L m ops o = false) := Lib.hid (by
                  unfold paidB
                  have : (L.all fun r => owesB ops (debtO r o)) = false := by
                    rw [List.all_eq_false]
                    have hjL : j < L.length := by rw [← HNL.out]; exact hlt
                    refine ⟨L[j], List.getElem_mem hjL, ?_⟩
                    rw [← HF.out, HD.out]
                    show ¬ hasO ops y = true
                    rw [hq]; decide
                  rw [this, Bool.and_false])
                clear hq
                go_wp2_with fail
                refine HCO.out.mono ?_
                rintro e w7 ⟨rfl, g7⟩
                have HG7 := Lib.hid (HG6.out.trans g7)
                clear g7
                go_wp2_with fail
                go_ret
                exact ⟨by rw [HZF.out]; rfl, HG7.out⟩
              · rw [hq] at HCO
                have HX : Hid (∀ q (hq : q < L.length), q < j + 1 → owesB ops (debtO L[q] o) = true) := Lib.hid fun q hqq hjk => by
                  by_cases e : q = j
                  · subst e; rw [← HF.out, HD.out]; exact hq
                  · exact HAL.out q hqq (by omega)
                clear hq
                go_wp2_with fail
                refine HCO.out.mono ?_
                rintro e w7 ⟨rfl, g7⟩
                have HG7 := Lib.hid (HG6.out.trans g7)
                have HB7 := Lib.hid (HB6.out.gr g7)
                clear g7 y0 y1 y2 y3
                go_wp2_with fail
                go_roundw
                case rel => exact ⟨j + 1, by omega, by go_num, HG7.out, HB7.out, HX⟩
                case measure => simp [intOf]; omega
          · have HZT : Hid (paidB L m ops o = true) := Lib.hid (by
              unfold paidB
              rw [HPRE.out.1, HPRE.out.2]
              have : (L.all fun r => owesB ops (debtO r o)) = true := by
                rw [List.all_eq_true]
                intro x hx
                obtain ⟨i, hi, rfl⟩ := List.mem_iff_getElem.1 hx
                exact HAL.out i hi (by rw [← HNL.out] at hi; omega)
              rw [this]; rfl)
            have u1 : ¬ (j : Int) < (n : Int) := by omega
            clear hgr hbo
            go_wp2_with fail
            go_ret
            exact ⟨by rw [HZT.out]; rfl, HGR.out⟩
      · rw [hq] at HCO
        have HZ : Hid (paidB L m ops o = false) := Lib.hid (by unfold paidB; rw [HRE.out, show opposeB ops (some ⟨5, o.key, o.elem, 0⟩) = true from hq]; simp)
        clear hq
        go_wp2_with fail
        refine HCO.out.mono ?_
        rintro e w9 ⟨rfl, g⟩
        have HGF := Lib.hid (HGN.out.trans g)
        clear g
        go_wp2_with fail
        go_ret
        exact ⟨by rw [HZ.out]; rfl, HGF.out⟩
    · go_wp2_with fail
      refine (HOW.out _ HG2.out).mono ?_
      rintro e w3 ⟨rfl, g⟩
      have HG3 := Lib.hid (HG2.out.trans g)
      have HB3 := Lib.hid (HB2.out.gr g)
      clear g c0 c1 c2 c3
      obtain ⟨c0, c1, c2, c3⟩ := HB3.out.c4
      rcases zo with _ | _
      · have HZ : Hid (paidB L m ops o = false) := Lib.hid (by unfold paidB; rw [HB4.out]; rfl)
        go_wp2_with fail
        go_ret
        exact ⟨by rw [HZ.out]; rfl, HG3.out⟩
      · have HBI : Hid (badId L m o = false) := Lib.hid (by rw [HB4.out]; rfl)
        go_upto_region 3 with (fail)
        go_wp2_with fail
        refine (HRV.out _ HG3.out).mono ?_
        rintro e w4 ⟨rfl, g⟩
        go_upto_region 4 with (fail)
        obtain ⟨WR, hWR, hgR, hbR⟩ := obox4 w4 ⟨5, o.key, o.elem, 0⟩
        change Code.wp Tryz.prog _ _ _ (w4.alloc (.cells (tovs ⟨5, o.key, o.elem, 0⟩) 52))
        rw [← hWR]
        have HGN := Lib.hid ((HG3.out.trans g).trans hgR)
        have HBN := Lib.hid ((HB3.out.gr g).gr hgR)
        obtain ⟨y0, y1, y2, y3⟩ := hbR.c4
        clear hWR hgR hbR g c0 c1 c2 c3
        obtain ⟨c0, c1, c2, c3⟩ := HBN.out.c4
        have HCO := Lib.hid (HCN.out ⟨5, o.key, o.elem, 0⟩ WR HGN.out)
        unfold tovs at HCO
        rcases hq : hasO ops ⟨5, o.key, o.elem, 0⟩ with _ | _
        · rw [hq] at HCO
          have HPRE : Hid ((!badId L m o) = true ∧ (!opposeB ops (revO o)) = true) := Lib.hid ⟨by rw [HBI.out]; rfl, by rw [HRE.out]; show (!hasO ops ⟨5, o.key, o.elem, 0⟩) = true; rw [hq]; rfl⟩
          clear hq
          go_wp2_with fail
          refine HCO.out.mono ?_
          rintro e w9 ⟨rfl, g⟩
          have HGN := Lib.hid (HGN.out.trans g)
          have HBN := Lib.hid (HBN.out.gr g)
          clear g y0 y1 y2 y3 c0 c1 c2 c3
          obtain ⟨c0, c1, c2, c3⟩ := HBN.out.c4
          go_wp2_with fail
          go_loopw [12, 13, 14, 46] (fun s12 s13 s14 i wr => ∃ j : Nat, j ≤ n ∧ i = .int .i64 (j : Int) ∧ Gr w wr ∧ OBox wr w.heap.size o ∧ Hid (∀ q (hq : q < L.length), q < j → owesB ops (debtO L[q] o) = true)) (fun s12 s13 s14 i _ => n - (intOf i).toNat)
          case atStart => exact ⟨0, Nat.zero_le _, rfl, HGN.out, HBN.out, Lib.hid (fun _ _ h => absurd h (Nat.not_lt_zero _))⟩
          case round =>
            clear c0 c1 c2 c3
            obtain ⟨j, hj, rfl, hgr, hbo, HAL⟩ := hrel
            have HGR := Lib.hid hgr
            by_cases hlt : j < n
            · have hjL : j < L.length := by rw [← HNL.out]; exact hlt
              obtain ⟨b', off', hA, q5⟩ := HRC.out j hjL
              subst hA
              obtain ⟨f, hf⟩ : ∃ f, f = L[j] := ⟨_, rfl⟩
              rw [← hf] at q5
              obtain ⟨a0, a1, a2, a3, a4⟩ := q5.gr hgr
              have HF := Lib.hid hf
              have u0 : (0 : Int) ≤ (j : Int) := by omega
              have u1 : (j : Int) < (n : Int) := by omega
              have u2 : wrap64 ((j : Int) + 1) = ((j + 1 : Nat) : Int) := by unfold wrap64; omega
              obtain ⟨W1, hW1, hg1, hr1⟩ := rubox5 wr f
              have HGA := Lib.hid (hgr.trans hg1)
              have HBA := Lib.hid (hbo.gr hg1)
              have HDB := Lib.hid (debt_any f o W1)
              clear hf q5
              go_upto_region 9 with (fail)
              change Code.wp Tryz.prog _ _ _ (wr.alloc (.cells (ruv f) 49))
              rw [← hW1]
              clear hW1 hg1 hgr hbo a0 a1 a2 a3 a4
              obtain ⟨r0, r1, r2, r3, r4⟩ := hr1
              obtain ⟨d0, d1, d2, d3⟩ := HBA.out.c4
              cases hd : debtO f o with
              | none =>
                rw [hd] at HDB
                have HDB : Hid (Calls Tryz.prog 121 #[.agg #[.int .i64 f.k, .string f.key, .string f.other, .int .i64 f.min, .int .i64 f.start], .agg #[.int .i64 o.kind, .string o.key, .string o.elem, .int .i64 o.n]] W1 fun e w' => e = .returned (.tuple #[.agg #[.int .i64 0, .string ⟨#[]⟩, .string ⟨#[]⟩, .int .i64 0], .bool false]) ∧ Gr W1 w') := HDB
                have HX : Hid (∀ q (hq : q < L.length), q < j + 1 → owesB ops (debtO L[q] o) = true) := Lib.hid fun q hqq hjk => by
                  by_cases e : q = j
                  · subst e; rw [← HF.out, hd]; rfl
                  · exact HAL.out q hqq (by omega)
                go_wp2_with fail
                refine HDB.out.mono ?_
                rintro e w5 ⟨rfl, g5⟩
                go_upto_region 10 with (fail)
                obtain ⟨W6, hW6, hg6, hb6⟩ := obox4 w5 zO
                change Code.wp Tryz.prog _ _ _ (w5.alloc (.cells (tovs zO) 52))
                rw [← hW6]
                have HG6 := Lib.hid ((HGA.out.trans g5).trans hg6)
                have HB6 := Lib.hid ((HBA.out.gr g5).gr hg6)
                clear hd hW6 hg6 hb6 g5 r0 r1 r2 r3 r4 d0 d1 d2 d3
                go_wp2_with fail
                go_roundw
                case rel => exact ⟨j + 1, by omega, by go_num, HG6.out, HB6.out, HX⟩
                case measure => simp [intOf]; omega
              | some y =>
                rw [hd] at HDB
                have HDB : Hid (Calls Tryz.prog 121 #[.agg #[.int .i64 f.k, .string f.key, .string f.other, .int .i64 f.min, .int .i64 f.start], .agg #[.int .i64 o.kind, .string o.key, .string o.elem, .int .i64 o.n]] W1 fun e w' => e = .returned (.tuple #[.agg #[.int .i64 y.kind, .string y.key, .string y.elem, .int .i64 y.n], .bool true]) ∧ Gr W1 w') := HDB
                go_wp2_with fail
                refine HDB.out.mono ?_
                rintro e w5 ⟨rfl, g5⟩
                go_upto_region 10 with (fail)
                obtain ⟨W6, hW6, hg6, hb6⟩ := obox4 w5 y
                change Code.wp Tryz.prog _ _ _ (w5.alloc (.cells (tovs y) 52))
                rw [← hW6]
                have HG6 := Lib.hid ((HGA.out.trans g5).trans hg6)
                have HB6 := Lib.hid ((HBA.out.gr g5).gr hg6)
                obtain ⟨y0, y1, y2, y3⟩ := hb6.c4
                have HCO := Lib.hid (HCN.out y W6 HG6.out)
                unfold tovs at HCO
                have HD := Lib.hid hd
                clear hd hW6 hg6 hb6 g5 r0 r1 r2 r3 r4 d0 d1 d2 d3
                rcases hq : hasO ops y with _ | _
                · rw [hq] at HCO
                  have HZF : Hid (paidB L m ops o = false) := Lib.hid (by
                    unfold paidB
                    have : (L.all fun r => owesB ops (debtO r o)) = false := by
                      rw [List.all_eq_false]
                      have hjL : j < L.length := by rw [← HNL.out]; exact hlt
                      refine ⟨L[j], List.getElem_mem hjL, ?_⟩
                      rw [← HF.out, HD.out]
                      show ¬ hasO ops y = true
                      rw [hq]; decide
                    rw [this, Bool.and_false])
                  clear hq
                  go_wp2_with fail
                  refine HCO.out.mono ?_
                  rintro e w7 ⟨rfl, g7⟩
                  have HG7 := Lib.hid (HG6.out.trans g7)
                  clear g7
                  go_wp2_with fail
                  go_ret
                  exact ⟨by rw [HZF.out]; rfl, HG7.out⟩
                · rw [hq] at HCO
                  have HX : Hid (∀ q (hq : q < L.length), q < j + 1 → owesB ops (debtO L[q] o) = true) := Lib.hid fun q hqq hjk => by
                    by_cases e : q = j
                    · subst e; rw [← HF.out, HD.out]; exact hq
                    · exact HAL.out q hqq (by omega)
                  clear hq
                  go_wp2_with fail
                  refine HCO.out.mono ?_
                  rintro e w7 ⟨rfl, g7⟩
                  have HG7 := Lib.hid (HG6.out.trans g7)
                  have HB7 := Lib.hid (HB6.out.gr g7)
                  clear g7 y0 y1 y2 y3
                  go_wp2_with fail
                  go_roundw
                  case rel => exact ⟨j + 1, by omega, by go_num, HG7.out, HB7.out, HX⟩
                  case measure => simp [intOf]; omega
            · have HZT : Hid (paidB L m ops o = true) := Lib.hid (by
                unfold paidB
                rw [HPRE.out.1, HPRE.out.2]
                have : (L.all fun r => owesB ops (debtO r o)) = true := by
                  rw [List.all_eq_true]
                  intro x hx
                  obtain ⟨i, hi, rfl⟩ := List.mem_iff_getElem.1 hx
                  exact HAL.out i hi (by rw [← HNL.out] at hi; omega)
                rw [this]; rfl)
              have u1 : ¬ (j : Int) < (n : Int) := by omega
              clear hgr hbo
              go_wp2_with fail
              go_ret
              exact ⟨by rw [HZT.out]; rfl, HGR.out⟩
        · rw [hq] at HCO
          have HZ : Hid (paidB L m ops o = false) := Lib.hid (by unfold paidB; rw [HRE.out, show opposeB ops (some ⟨5, o.key, o.elem, 0⟩) = true from hq]; simp)
          clear hq
          go_wp2_with fail
          refine HCO.out.mono ?_
          rintro e w9 ⟨rfl, g⟩
          have HGF := Lib.hid (HGN.out.trans g)
          clear g
          go_wp2_with fail
          go_ret
          exact ⟨by rw [HZ.out]; rfl, HGF.out⟩
  · by_cases h8 : o.kind = 8
    · have k4b : (o.kind == 4) = false := by simpa using h4
      have k8b : (o.kind == 8) = true := by rw [h8]; rfl
      have HRE : Hid (revO o = some ⟨7, o.key, ⟨#[]⟩, 0⟩) := Lib.hid (by unfold revO; rw [if_neg h4, if_pos h8])
      have HRV : Hid (∀ w1, Gr w w1 → Calls Tryz.prog 119 #[.agg #[.int .i64 o.kind, .string o.key, .string o.elem, .int .i64 o.n]] w1 fun e w' => e = .returned (.tuple #[.agg #[.int .i64 7, .string o.key, .string ⟨#[]⟩, .int .i64 0], .bool true]) ∧ Gr w1 w') := Lib.hid (fun w1 g => by have := reverse_any o w1; rw [HRE.out] at this; exact this)
      have HBI : Hid (badId L m o = false) := Lib.hid (by unfold badId; rw [decide_eq_false h4]; rfl)
      clear h4 h8 hz8 hzo
      go_enter Tryz.func70, Tryz.ntmps70
      go_upto_region 1 with (fail)
      change Code.wp Tryz.prog _ _ _ (w.alloc (.cells (tovs o) 52))
      rw [← hW]
      clear hW
      go_upto_region 3 with (fail)
      go_wp2_with fail
      refine (HRV.out _ HG1.out).mono ?_
      rintro e w2 ⟨rfl, g⟩
      go_upto_region 4 with (fail)
      obtain ⟨WR, hWR, hgR, hbR⟩ := obox4 w2 ⟨7, o.key, ⟨#[]⟩, 0⟩
      change Code.wp Tryz.prog _ _ _ (w2.alloc (.cells (tovs ⟨7, o.key, ⟨#[]⟩, 0⟩) 52))
      rw [← hWR]
      have HGN := Lib.hid ((HG1.out.trans g).trans hgR)
      have HBN := Lib.hid ((HB1.out.gr g).gr hgR)
      obtain ⟨y0, y1, y2, y3⟩ := hbR.c4
      clear hWR hgR hbR g c0 c1 c2 c3
      obtain ⟨c0, c1, c2, c3⟩ := HBN.out.c4
      have HCO := Lib.hid (HCN.out ⟨7, o.key, ⟨#[]⟩, 0⟩ WR HGN.out)
      unfold tovs at HCO
      rcases hq : hasO ops ⟨7, o.key, ⟨#[]⟩, 0⟩ with _ | _
      · rw [hq] at HCO
        have HPRE : Hid ((!badId L m o) = true ∧ (!opposeB ops (revO o)) = true) := Lib.hid ⟨by rw [HBI.out]; rfl, by rw [HRE.out]; show (!hasO ops ⟨7, o.key, ⟨#[]⟩, 0⟩) = true; rw [hq]; rfl⟩
        clear hq
        go_wp2_with fail
        refine HCO.out.mono ?_
        rintro e w9 ⟨rfl, g⟩
        have HGN := Lib.hid (HGN.out.trans g)
        have HBN := Lib.hid (HBN.out.gr g)
        clear g y0 y1 y2 y3 c0 c1 c2 c3
        obtain ⟨c0, c1, c2, c3⟩ := HBN.out.c4
        go_wp2_with fail
        go_loopw [12, 13, 14, 46] (fun s12 s13 s14 i wr => ∃ j : Nat, j ≤ n ∧ i = .int .i64 (j : Int) ∧ Gr w wr ∧ OBox wr w.heap.size o ∧ Hid (∀ q (hq : q < L.length), q < j → owesB ops (debtO L[q] o) = true)) (fun s12 s13 s14 i _ => n - (intOf i).toNat)
        case atStart => exact ⟨0, Nat.zero_le _, rfl, HGN.out, HBN.out, Lib.hid (fun _ _ h => absurd h (Nat.not_lt_zero _))⟩
        case round =>
          clear c0 c1 c2 c3
          obtain ⟨j, hj, rfl, hgr, hbo, HAL⟩ := hrel
          have HGR := Lib.hid hgr
          by_cases hlt : j < n
          · have hjL : j < L.length := by rw [← HNL.out]; exact hlt
            obtain ⟨b', off', hA, q5⟩ := HRC.out j hjL
            subst hA
            obtain ⟨f, hf⟩ : ∃ f, f = L[j] := ⟨_, rfl⟩
            rw [← hf] at q5
            obtain ⟨a0, a1, a2, a3, a4⟩ := q5.gr hgr
            have HF := Lib.hid hf
            have u0 : (0 : Int) ≤ (j : Int) := by omega
            have u1 : (j : Int) < (n : Int) := by omega
            have u2 : wrap64 ((j : Int) + 1) = ((j + 1 : Nat) : Int) := by unfold wrap64; omega
            obtain ⟨W1, hW1, hg1, hr1⟩ := rubox5 wr f
            have HGA := Lib.hid (hgr.trans hg1)
            have HBA := Lib.hid (hbo.gr hg1)
            have HDB := Lib.hid (debt_any f o W1)
            clear hf q5
            go_upto_region 9 with (fail)
            change Code.wp Tryz.prog _ _ _ (wr.alloc (.cells (ruv f) 49))
            rw [← hW1]
            clear hW1 hg1 hgr hbo a0 a1 a2 a3 a4
            obtain ⟨r0, r1, r2, r3, r4⟩ := hr1
            obtain ⟨d0, d1, d2, d3⟩ := HBA.out.c4
            cases hd : debtO f o with
            | none =>
              rw [hd] at HDB
              have HDB : Hid (Calls Tryz.prog 121 #[.agg #[.int .i64 f.k, .string f.key, .string f.other, .int .i64 f.min, .int .i64 f.start], .agg #[.int .i64 o.kind, .string o.key, .string o.elem, .int .i64 o.n]] W1 fun e w' => e = .returned (.tuple #[.agg #[.int .i64 0, .string ⟨#[]⟩, .string ⟨#[]⟩, .int .i64 0], .bool false]) ∧ Gr W1 w') := HDB
              have HX : Hid (∀ q (hq : q < L.length), q < j + 1 → owesB ops (debtO L[q] o) = true) := Lib.hid fun q hqq hjk => by
                by_cases e : q = j
                · subst e; rw [← HF.out, hd]; rfl
                · exact HAL.out q hqq (by omega)
              go_wp2_with fail
              refine HDB.out.mono ?_
              rintro e w5 ⟨rfl, g5⟩
              go_upto_region 10 with (fail)
              obtain ⟨W6, hW6, hg6, hb6⟩ := obox4 w5 zO
              change Code.wp Tryz.prog _ _ _ (w5.alloc (.cells (tovs zO) 52))
              rw [← hW6]
              have HG6 := Lib.hid ((HGA.out.trans g5).trans hg6)
              have HB6 := Lib.hid ((HBA.out.gr g5).gr hg6)
              clear hd hW6 hg6 hb6 g5 r0 r1 r2 r3 r4 d0 d1 d2 d3
              go_wp2_with fail
              go_roundw
              case rel => exact ⟨j + 1, by omega, by go_num, HG6.out, HB6.out, HX⟩
              case measure => simp [intOf]; omega
            | some y =>
              rw [hd] at HDB
              have HDB : Hid (Calls Tryz.prog 121 #[.agg #[.int .i64 f.k, .string f.key, .string f.other, .int .i64 f.min, .int .i64 f.start], .agg #[.int .i64 o.kind, .string o.key, .string o.elem, .int .i64 o.n]] W1 fun e w' => e = .returned (.tuple #[.agg #[.int .i64 y.kind, .string y.key, .string y.elem, .int .i64 y.n], .bool true]) ∧ Gr W1 w') := HDB
              go_wp2_with fail
              refine HDB.out.mono ?_
              rintro e w5 ⟨rfl, g5⟩
              go_upto_region 10 with (fail)
              obtain ⟨W6, hW6, hg6, hb6⟩ := obox4 w5 y
              change Code.wp Tryz.prog _ _ _ (w5.alloc (.cells (tovs y) 52))
              rw [← hW6]
              have HG6 := Lib.hid ((HGA.out.trans g5).trans hg6)
              have HB6 := Lib.hid ((HBA.out.gr g5).gr hg6)
              obtain ⟨y0, y1, y2, y3⟩ := hb6.c4
              have HCO := Lib.hid (HCN.out y W6 HG6.out)
              unfold tovs at HCO
              have HD := Lib.hid hd
              clear hd hW6 hg6 hb6 g5 r0 r1 r2 r3 r4 d0 d1 d2 d3
              rcases hq : hasO ops y with _ | _
              · rw [hq] at HCO
                have HZF : Hid (paidB L m ops o = false) := Lib.hid (by
                  unfold paidB
                  have : (L.all fun r => owesB ops (debtO r o)) = false := by
                    rw [List.all_eq_false]
                    have hjL : j < L.length := by rw [← HNL.out]; exact hlt
                    refine ⟨L[j], List.getElem_mem hjL, ?_⟩
                    rw [← HF.out, HD.out]
                    show ¬ hasO ops y = true
                    rw [hq]; decide
                  rw [this, Bool.and_false])
                clear hq
                go_wp2_with fail
                refine HCO.out.mono ?_
                rintro e w7 ⟨rfl, g7⟩
                have HG7 := Lib.hid (HG6.out.trans g7)
                clear g7
                go_wp2_with fail
                go_ret
                exact ⟨by rw [HZF.out]; rfl, HG7.out⟩
              · rw [hq] at HCO
                have HX : Hid (∀ q (hq : q < L.length), q < j + 1 → owesB ops (debtO L[q] o) = true) := Lib.hid fun q hqq hjk => by
                  by_cases e : q = j
                  · subst e; rw [← HF.out, HD.out]; exact hq
                  · exact HAL.out q hqq (by omega)
                clear hq
                go_wp2_with fail
                refine HCO.out.mono ?_
                rintro e w7 ⟨rfl, g7⟩
                have HG7 := Lib.hid (HG6.out.trans g7)
                have HB7 := Lib.hid (HB6.out.gr g7)
                clear g7 y0 y1 y2 y3
                go_wp2_with fail
                go_roundw
                case rel => exact ⟨j + 1, by omega, by go_num, HG7.out, HB7.out, HX⟩
                case measure => simp [intOf]; omega
          · have HZT : Hid (paidB L m ops o = true) := Lib.hid (by
              unfold paidB
              rw [HPRE.out.1, HPRE.out.2]
              have : (L.all fun r => owesB ops (debtO r o)) = true := by
                rw [List.all_eq_true]
                intro x hx
                obtain ⟨i, hi, rfl⟩ := List.mem_iff_getElem.1 hx
                exact HAL.out i hi (by rw [← HNL.out] at hi; omega)
              rw [this]; rfl)
            have u1 : ¬ (j : Int) < (n : Int) := by omega
            clear hgr hbo
            go_wp2_with fail
            go_ret
            exact ⟨by rw [HZT.out]; rfl, HGR.out⟩
      · rw [hq] at HCO
        have HZ : Hid (paidB L m ops o = false) := Lib.hid (by unfold paidB; rw [HRE.out, show opposeB ops (some ⟨7, o.key, ⟨#[]⟩, 0⟩) = true from hq]; simp)
        clear hq
        go_wp2_with fail
        refine HCO.out.mono ?_
        rintro e w9 ⟨rfl, g⟩
        have HGF := Lib.hid (HGN.out.trans g)
        clear g
        go_wp2_with fail
        go_ret
        exact ⟨by rw [HZ.out]; rfl, HGF.out⟩
    · have k4b : (o.kind == 4) = false := by simpa using h4
      have k8b : (o.kind == 8) = false := by simpa using h8
      have HRE : Hid (revO o = none) := Lib.hid (by unfold revO; rw [if_neg h4, if_neg h8])
      have HRV : Hid (∀ w1, Gr w w1 → Calls Tryz.prog 119 #[.agg #[.int .i64 o.kind, .string o.key, .string o.elem, .int .i64 o.n]] w1 fun e w' => e = .returned (.tuple #[.agg #[.int .i64 0, .string ⟨#[]⟩, .string ⟨#[]⟩, .int .i64 0], .bool false]) ∧ Gr w1 w') := Lib.hid (fun w1 g => by have := reverse_any o w1; rw [HRE.out] at this; exact this)
      have HBI : Hid (badId L m o = false) := Lib.hid (by unfold badId; rw [decide_eq_false h4]; rfl)
      clear hz8 hzo
      go_enter Tryz.func70, Tryz.ntmps70
      go_upto_region 1 with (fail)
      change Code.wp Tryz.prog _ _ _ (w.alloc (.cells (tovs o) 52))
      rw [← hW]
      clear hW
      go_upto_region 3 with (fail)
      go_wp2_with fail
      refine (HRV.out _ HG1.out).mono ?_
      rintro e w2 ⟨rfl, g⟩
      go_upto_region 4 with (fail)
      obtain ⟨WR, hWR, hgR, hbR⟩ := obox4 w2 zO
      change Code.wp Tryz.prog _ _ _ (w2.alloc (.cells (tovs zO) 52))
      rw [← hWR]
      have HGN := Lib.hid ((HG1.out.trans g).trans hgR)
      have HBN := Lib.hid ((HB1.out.gr g).gr hgR)
      obtain ⟨y0, y1, y2, y3⟩ := hbR.c4
      clear hWR hgR hbR g c0 c1 c2 c3
      obtain ⟨c0, c1, c2, c3⟩ := HBN.out.c4
      have HPRE : Hid ((!badId L m o) = true ∧ (!opposeB ops (revO o)) = true) := Lib.hid ⟨by rw [HBI.out]; rfl, by rw [HRE.out]; rfl⟩
      clear y0 y1 y2 y3
      go_wp2_with fail
      go_loopw [12, 13, 14, 46] (fun s12 s13 s14 i wr => ∃ j : Nat, j ≤ n ∧ i = .int .i64 (j : Int) ∧ Gr w wr ∧ OBox wr w.heap.size o ∧ Hid (∀ q (hq : q < L.length), q < j → owesB ops (debtO L[q] o) = true)) (fun s12 s13 s14 i _ => n - (intOf i).toNat)
      case atStart => exact ⟨0, Nat.zero_le _, rfl, HGN.out, HBN.out, Lib.hid (fun _ _ h => absurd h (Nat.not_lt_zero _))⟩
      case round =>
        clear c0 c1 c2 c3
        obtain ⟨j, hj, rfl, hgr, hbo, HAL⟩ := hrel
        have HGR := Lib.hid hgr
        by_cases hlt : j < n
        · have hjL : j < L.length := by rw [← HNL.out]; exact hlt
          obtain ⟨b', off', hA, q5⟩ := HRC.out j hjL
          subst hA
          obtain ⟨f, hf⟩ : ∃ f, f = L[j] := ⟨_, rfl⟩
          rw [← hf] at q5
          obtain ⟨a0, a1, a2, a3, a4⟩ := q5.gr hgr
          have HF := Lib.hid hf
          have u0 : (0 : Int) ≤ (j : Int) := by omega
          have u1 : (j : Int) < (n : Int) := by omega
          have u2 : wrap64 ((j : Int) + 1) = ((j + 1 : Nat) : Int) := by unfold wrap64; omega
          obtain ⟨W1, hW1, hg1, hr1⟩ := rubox5 wr f
          have HGA := Lib.hid (hgr.trans hg1)
          have HBA := Lib.hid (hbo.gr hg1)
          have HDB := Lib.hid (debt_any f o W1)
          clear hf q5
          go_upto_region 9 with (fail)
          change Code.wp Tryz.prog _ _ _ (wr.alloc (.cells (ruv f) 49))
          rw [← hW1]
          clear hW1 hg1 hgr hbo a0 a1 a2 a3 a4
          obtain ⟨r0, r1, r2, r3, r4⟩ := hr1
          obtain ⟨d0, d1, d2, d3⟩ := HBA.out.c4
          cases hd : debtO f o with
          | none =>
            rw [hd] at HDB
            have HDB : Hid (Calls Tryz.prog 121 #[.agg #[.int .i64 f.k, .string f.key, .string f.other, .int .i64 f.min, .int .i64 f.start], .agg #[.int .i64 o.kind, .string o.key, .string o.elem, .int .i64 o.n]] W1 fun e w' => e = .returned (.tuple #[.agg #[.int .i64 0, .string ⟨#[]⟩, .string ⟨#[]⟩, .int .i64 0], .bool false]) ∧ Gr W1 w') := HDB
            have HX : Hid (∀ q (hq : q < L.length), q < j + 1 → owesB ops (debtO L[q] o) = true) := Lib.hid fun q hqq hjk => by
              by_cases e : q = j
              · subst e; rw [← HF.out, hd]; rfl
              · exact HAL.out q hqq (by omega)
            go_wp2_with fail
            refine HDB.out.mono ?_
            rintro e w5 ⟨rfl, g5⟩
            go_upto_region 10 with (fail)
            obtain ⟨W6, hW6, hg6, hb6⟩ := obox4 w5 zO
            change Code.wp Tryz.prog _ _ _ (w5.alloc (.cells (tovs zO) 52))
            rw [← hW6]
            have HG6 := Lib.hid ((HGA.out.trans g5).trans hg6)
            have HB6 := Lib.hid ((HBA.out.gr g5).gr hg6)
            clear hd hW6 hg6 hb6 g5 r0 r1 r2 r3 r4 d0 d1 d2 d3
            go_wp2_with fail
            go_roundw
            case rel => exact ⟨j + 1, by omega, by go_num, HG6.out, HB6.out, HX⟩
            case measure => simp [intOf]; omega
          | some y =>
            rw [hd] at HDB
            have HDB : Hid (Calls Tryz.prog 121 #[.agg #[.int .i64 f.k, .string f.key, .string f.other, .int .i64 f.min, .int .i64 f.start], .agg #[.int .i64 o.kind, .string o.key, .string o.elem, .int .i64 o.n]] W1 fun e w' => e = .returned (.tuple #[.agg #[.int .i64 y.kind, .string y.key, .string y.elem, .int .i64 y.n], .bool true]) ∧ Gr W1 w') := HDB
            go_wp2_with fail
            refine HDB.out.mono ?_
            rintro e w5 ⟨rfl, g5⟩
            go_upto_region 10 with (fail)
            obtain ⟨W6, hW6, hg6, hb6⟩ := obox4 w5 y
            change Code.wp Tryz.prog _ _ _ (w5.alloc (.cells (tovs y) 52))
            rw [← hW6]
            have HG6 := Lib.hid ((HGA.out.trans g5).trans hg6)
            have HB6 := Lib.hid ((HBA.out.gr g5).gr hg6)
            obtain ⟨y0, y1, y2, y3⟩ := hb6.c4
            have HCO := Lib.hid (HCN.out y W6 HG6.out)
            unfold tovs at HCO
            have HD := Lib.hid hd
            clear hd hW6 hg6 hb6 g5 r0 r1 r2 r3 r4 d0 d1 d2 d3
            rcases hq : hasO ops y with _ | _
            · rw [hq] at HCO
              have HZF : Hid (paidB L m ops o = false) := Lib.hid (by
                unfold paidB
                have : (L.all fun r => owesB ops (debtO r o)) = false := by
                  rw [List.all_eq_false]
                  have hjL : j < L.length := by rw [← HNL.out]; exact hlt
                  refine ⟨L[j], List.getElem_mem hjL, ?_⟩
                  rw [← HF.out, HD.out]
                  show ¬ hasO ops y = true
                  rw [hq]; decide
                rw [this, Bool.and_false])
              clear hq
              go_wp2_with fail
              refine HCO.out.mono ?_
              rintro e w7 ⟨rfl, g7⟩
              have HG7 := Lib.hid (HG6.out.trans g7)
              clear g7
              go_wp2_with fail
              go_ret
              exact ⟨by rw [HZF.out]; rfl, HG7.out⟩
            · rw [hq] at HCO
              have HX : Hid (∀ q (hq : q < L.length), q < j + 1 → owesB ops (debtO L[q] o) = true) := Lib.hid fun q hqq hjk => by
                by_cases e : q = j
                · subst e; rw [← HF.out, HD.out]; exact hq
                · exact HAL.out q hqq (by omega)
              clear hq
              go_wp2_with fail
              refine HCO.out.mono ?_
              rintro e w7 ⟨rfl, g7⟩
              have HG7 := Lib.hid (HG6.out.trans g7)
              have HB7 := Lib.hid (HB6.out.gr g7)
              clear g7 y0 y1 y2 y3
              go_wp2_with fail
              go_roundw
              case rel => exact ⟨j + 1, by omega, by go_num, HG7.out, HB7.out, HX⟩
              case measure => simp [intOf]; omega
        · have HZT : Hid (paidB L m ops o = true) := Lib.hid (by
            unfold paidB
            rw [HPRE.out.1, HPRE.out.2]
            have : (L.all fun r => owesB ops (debtO r o)) = true := by
              rw [List.all_eq_true]
              intro x hx
              obtain ⟨i, hi, rfl⟩ := List.mem_iff_getElem.1 hx
              exact HAL.out i hi (by rw [← HNL.out] at hi; omega)
            rw [this]; rfl)
          have u1 : ¬ (j : Int) < (n : Int) := by omega
          clear hgr hbo
          go_wp2_with fail
          go_ret
          exact ⟨by rw [HZT.out]; rfl, HGR.out⟩
end Go.Proofs.YtnjmgknicffcbaaGreatDoor
