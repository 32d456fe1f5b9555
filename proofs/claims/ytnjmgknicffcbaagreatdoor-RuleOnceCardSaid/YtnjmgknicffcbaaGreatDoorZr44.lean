/- Walks over the document's answer of package rule: one, Check. -/
import Derived.Test.YtnjmgknicffcbaaGreatDoorZr43
namespace Go.Proofs.YtnjmgknicffcbaaGreatDoor
open Go.RowKit Go.Joins
set_option linter.unusedSimpArgs false
set_option linter.unusedVariables false

set_option maxRecDepth 100000 in
set_option maxHeartbeats 8000000 in
theorem rone_any (v : Value) (L : List RU) (i : Nat) (hi : i < L.length) (hks : ∀ r ∈ L, r.key.size ≤ 9223372036854775807) (w : World) (hv : UV w v L) :
    Calls Tryz.prog 65 #[v, .int .i64 (i : Int)] w fun e w' => e = .returned (.bool (oneB L i L[i])) ∧ Gr w w' := by
  have hkk := hks _ (List.getElem_mem hi)
  obtain ⟨r, hr⟩ : ∃ r, r = L[i] := ⟨_, rfl⟩
  rw [← hr] at hkk ⊢
  obtain ⟨W, hW, hg, hc⟩ := rubox5 w r
  have HG1 := Lib.hid hg
  have HC1 := Lib.hid hc
  have HKE := Lib.hid (fun w1 (g : Gr w w1) => (rkey8_any r.key hkk w1).mono fun e w' h => (⟨h.1, by rw [← h.2]; exact Gr.refl _⟩ : _ ∧ Gr w1 w'))
  have HMI := Lib.hid (fun w1 (g : Gr w w1) => ramount_any r.min w1)
  have HST := Lib.hid (fun w1 (g : Gr w w1) => ramount_any r.start w1)
  have HP3 := Lib.hid (fun w1 (g : Gr w w1) => rpair_any v L r 3 w1 (hv.gr g))
  have HP7 := Lib.hid (fun w1 (g : Gr w w1) => rpair_any v L r 7 w1 (hv.gr g))
  have HFK := Lib.hid (fun w1 (g : Gr w w1) => rfind_any v L r.key w1 (hv.gr g))
  have HFO := Lib.hid (fun w1 (g : Gr w w1) => rfind_any v L r.other w1 (hv.gr g))
  obtain ⟨zk, hzk⟩ : ∃ z, z = keyS r.key := ⟨_, rfl⟩
  obtain ⟨zm, hzm⟩ : ∃ z, z = inAB r.min := ⟨_, rfl⟩
  obtain ⟨zs, hzs⟩ : ∃ z, z = inAB r.start := ⟨_, rfl⟩
  obtain ⟨zf, hzf⟩ : ∃ z, z = decide (fInt L r.key = (i : Int)) := ⟨_, rfl⟩
  have ef : (fInt L r.key == (i : Int)) = zf := by rw [int_beqR, hzf]
  have efn : (fInt L r.key != (i : Int)) = !zf := by rw [bne, ef]
  rw [← hzk] at HKE
  rw [← hzm] at HMI
  rw [← hzs] at HST
  obtain ⟨A, c, rfl, l1, ⟨l2, _⟩, l3⟩ := hv
  have l2' : c ≤ 9223372036854775807 := l2
  obtain ⟨bb, off, rfl, c5⟩ := l3 i hi
  have HRC : Hid (∀ a (ha : a < L.length), RCell w bb (off + a * 5) L[a]) := Lib.hid (fun a ha => by
    obtain ⟨b', off', e, h⟩ := l3 a ha
    injection e with e
    injection e with e1 e2
    subst e1 e2
    exact h)
  rw [← hr] at c5
  obtain ⟨c0, c1, c2, c3, c4⟩ := c5
  obtain ⟨n, hn⟩ : ∃ n, n = L.length := ⟨_, rfl⟩
  have HN := Lib.hid hn
  rw [← hn] at hi l1 HP3 HP7 HFK HFO ⊢
  have t0 : (0 : Int) ≤ (i : Int) := by omega
  have t1 : (i : Int) < (n : Int) := by omega
  clear hn l3 l2 hg hc hkk hks hr
  obtain ⟨k, key, other, mn, st⟩ := r
  simp only [] at HKE HMI HST HFK HFO hzk hzm hzs hzf ef efn c0 c1 c2 c3 c4
  by_cases hk9 : k = 9
  · subst hk9
    by_cases hmn : mn = 0
    · subst hmn
      by_cases hst : st = 0
      · subst hst
        obtain ⟨zp, hzp⟩ : ∃ z, z = pairB L ⟨9, key, other, 0, 0⟩ 3 := ⟨_, rfl⟩
        rw [← hzp] at HP3
        have HZ : Hid (oneB L i ⟨9, key, other, 0, 0⟩ = (zk && (zm && zs) && zp)) := Lib.hid (by rw [hzk, hzm, hzs]; rw [hzp]; unfold oneB; simp)
        clear hzk hzm hzs
        clear hzp
        go_enter Tryz.func65, Tryz.ntmps65
        go_upto_region 2 with (fail)
        change Code.wp Tryz.prog _ _ _ (w.alloc (.cells (ruv ⟨9, key, other, 0, 0⟩) 49))
        rw [← hW]
        clear hW c0 c1 c2 c3 c4
        obtain ⟨r0, r1, r2, r3, r4⟩ := HC1.out
        go_wp2_with fail
        refine (HKE.out _ HG1.out).mono ?_
        rintro e w2 ⟨rfl, g⟩
        have HG2 := Lib.hid (HG1.out.trans g)
        have HC2 := Lib.hid (HC1.out.gr g)
        clear g r0 r1 r2 r3 r4
        obtain ⟨r0, r1, r2, r3, r4⟩ := HC2.out
        rcases zk with _ | _
        · go_wp2_with fail
          go_ret
          exact ⟨by rw [HZ.out]; first | rfl | simp, HG2.out⟩
        · go_wp2_with fail
          refine (HMI.out _ HG2.out).mono ?_
          rintro e w3 ⟨rfl, g⟩
          have HG3 := Lib.hid (HG2.out.trans g)
          have HC3 := Lib.hid (HC2.out.gr g)
          clear g r0 r1 r2 r3 r4
          obtain ⟨r0, r1, r2, r3, r4⟩ := HC3.out
          rcases zm with _ | _
          · go_wp2_with fail
            go_ret
            exact ⟨by rw [HZ.out]; first | rfl | simp, HG3.out⟩
          · go_wp2_with fail
            refine (HST.out _ HG3.out).mono ?_
            rintro e w4 ⟨rfl, g⟩
            have HG4 := Lib.hid (HG3.out.trans g)
            have HC4 := Lib.hid (HC3.out.gr g)
            clear g r0 r1 r2 r3 r4
            obtain ⟨r0, r1, r2, r3, r4⟩ := HC4.out
            rcases zs with _ | _
            · go_wp2_with fail
              go_ret
              exact ⟨by rw [HZ.out]; first | rfl | simp, HG4.out⟩
            · go_wp2_with fail
              refine (HP3.out _ HG4.out).mono ?_
              rintro e w5 ⟨rfl, g⟩
              have HG5 := Lib.hid (HG4.out.trans g)
              have HC5 := Lib.hid (HC4.out.gr g)
              clear g r0 r1 r2 r3 r4
              obtain ⟨r0, r1, r2, r3, r4⟩ := HC5.out
              go_wp2_with fail
              go_ret
              exact ⟨by rw [HZ.out]; first | rfl | simp, HG5.out⟩
      · have hstb : (st == 0) = false := by simpa using hst
        have hstn : (st != 0) = true := by simpa using hst
        have HZ : Hid (oneB L i ⟨9, key, other, 0, st⟩ = (zk && (zm && zs) && false)) := Lib.hid (by rw [hzk, hzm, hzs]; unfold oneB; simp [hst])
        clear hzk hzm hzs
        go_enter Tryz.func65, Tryz.ntmps65
        go_upto_region 2 with (fail)
        change Code.wp Tryz.prog _ _ _ (w.alloc (.cells (ruv ⟨9, key, other, 0, st⟩) 49))
        rw [← hW]
        clear hW c0 c1 c2 c3 c4
        obtain ⟨r0, r1, r2, r3, r4⟩ := HC1.out
        go_wp2_with fail
        refine (HKE.out _ HG1.out).mono ?_
        rintro e w2 ⟨rfl, g⟩
        have HG2 := Lib.hid (HG1.out.trans g)
        have HC2 := Lib.hid (HC1.out.gr g)
        clear g r0 r1 r2 r3 r4
        obtain ⟨r0, r1, r2, r3, r4⟩ := HC2.out
        rcases zk with _ | _
        · go_wp2_with fail
          go_ret
          exact ⟨by rw [HZ.out]; first | rfl | simp, HG2.out⟩
        · go_wp2_with fail
          refine (HMI.out _ HG2.out).mono ?_
          rintro e w3 ⟨rfl, g⟩
          have HG3 := Lib.hid (HG2.out.trans g)
          have HC3 := Lib.hid (HC2.out.gr g)
          clear g r0 r1 r2 r3 r4
          obtain ⟨r0, r1, r2, r3, r4⟩ := HC3.out
          rcases zm with _ | _
          · go_wp2_with fail
            go_ret
            exact ⟨by rw [HZ.out]; first | rfl | simp, HG3.out⟩
          · go_wp2_with fail
            refine (HST.out _ HG3.out).mono ?_
            rintro e w4 ⟨rfl, g⟩
            have HG4 := Lib.hid (HG3.out.trans g)
            have HC4 := Lib.hid (HC3.out.gr g)
            clear g r0 r1 r2 r3 r4
            obtain ⟨r0, r1, r2, r3, r4⟩ := HC4.out
            rcases zs with _ | _
            · go_wp2_with fail
              go_ret
              exact ⟨by rw [HZ.out]; first | rfl | simp, HG4.out⟩
            · go_wp2_with fail
              go_ret
              exact ⟨by rw [HZ.out]; first | rfl | simp, HG4.out⟩
    · have hmnb : (mn == 0) = false := by simpa using hmn
      have hmnn : (mn != 0) = true := by simpa using hmn
      have HZ : Hid (oneB L i ⟨9, key, other, mn, st⟩ = (zk && (zm && zs) && false)) := Lib.hid (by rw [hzk, hzm, hzs]; unfold oneB; simp [hmn])
      clear hzk hzm hzs
      go_enter Tryz.func65, Tryz.ntmps65
      go_upto_region 2 with (fail)
      change Code.wp Tryz.prog _ _ _ (w.alloc (.cells (ruv ⟨9, key, other, mn, st⟩) 49))
      rw [← hW]
      clear hW c0 c1 c2 c3 c4
      obtain ⟨r0, r1, r2, r3, r4⟩ := HC1.out
      go_wp2_with fail
      refine (HKE.out _ HG1.out).mono ?_
      rintro e w2 ⟨rfl, g⟩
      have HG2 := Lib.hid (HG1.out.trans g)
      have HC2 := Lib.hid (HC1.out.gr g)
      clear g r0 r1 r2 r3 r4
      obtain ⟨r0, r1, r2, r3, r4⟩ := HC2.out
      rcases zk with _ | _
      · go_wp2_with fail
        go_ret
        exact ⟨by rw [HZ.out]; first | rfl | simp, HG2.out⟩
      · go_wp2_with fail
        refine (HMI.out _ HG2.out).mono ?_
        rintro e w3 ⟨rfl, g⟩
        have HG3 := Lib.hid (HG2.out.trans g)
        have HC3 := Lib.hid (HC2.out.gr g)
        clear g r0 r1 r2 r3 r4
        obtain ⟨r0, r1, r2, r3, r4⟩ := HC3.out
        rcases zm with _ | _
        · go_wp2_with fail
          go_ret
          exact ⟨by rw [HZ.out]; first | rfl | simp, HG3.out⟩
        · go_wp2_with fail
          refine (HST.out _ HG3.out).mono ?_
          rintro e w4 ⟨rfl, g⟩
          have HG4 := Lib.hid (HG3.out.trans g)
          have HC4 := Lib.hid (HC3.out.gr g)
          clear g r0 r1 r2 r3 r4
          obtain ⟨r0, r1, r2, r3, r4⟩ := HC4.out
          rcases zs with _ | _
          · go_wp2_with fail
            go_ret
            exact ⟨by rw [HZ.out]; first | rfl | simp, HG4.out⟩
          · go_wp2_with fail
            go_ret
            exact ⟨by rw [HZ.out]; first | rfl | simp, HG4.out⟩
  · by_cases hk10 : k = 10
    · subst hk10
      by_cases hmn : mn = 0
      · subst hmn
        by_cases hst : st = 0
        · subst hst
          rcases hzp : pairB L ⟨10, key, other, 0, 0⟩ 7 with _ | _
          · rw [hzp] at HP7
            have HZ : Hid (oneB L i ⟨10, key, other, 0, 0⟩ = (zk && (zm && zs) && false)) := Lib.hid (by rw [hzk, hzm, hzs]; unfold oneB; simp [hzp])
            clear hzk hzm hzs
            go_enter Tryz.func65, Tryz.ntmps65
            go_upto_region 2 with (fail)
            change Code.wp Tryz.prog _ _ _ (w.alloc (.cells (ruv ⟨10, key, other, 0, 0⟩) 49))
            rw [← hW]
            clear hW c0 c1 c2 c3 c4
            obtain ⟨r0, r1, r2, r3, r4⟩ := HC1.out
            go_wp2_with fail
            refine (HKE.out _ HG1.out).mono ?_
            rintro e w2 ⟨rfl, g⟩
            have HG2 := Lib.hid (HG1.out.trans g)
            have HC2 := Lib.hid (HC1.out.gr g)
            clear g r0 r1 r2 r3 r4
            obtain ⟨r0, r1, r2, r3, r4⟩ := HC2.out
            rcases zk with _ | _
            · go_wp2_with fail
              go_ret
              exact ⟨by rw [HZ.out]; first | rfl | simp, HG2.out⟩
            · go_wp2_with fail
              refine (HMI.out _ HG2.out).mono ?_
              rintro e w3 ⟨rfl, g⟩
              have HG3 := Lib.hid (HG2.out.trans g)
              have HC3 := Lib.hid (HC2.out.gr g)
              clear g r0 r1 r2 r3 r4
              obtain ⟨r0, r1, r2, r3, r4⟩ := HC3.out
              rcases zm with _ | _
              · go_wp2_with fail
                go_ret
                exact ⟨by rw [HZ.out]; first | rfl | simp, HG3.out⟩
              · go_wp2_with fail
                refine (HST.out _ HG3.out).mono ?_
                rintro e w4 ⟨rfl, g⟩
                have HG4 := Lib.hid (HG3.out.trans g)
                have HC4 := Lib.hid (HC3.out.gr g)
                clear g r0 r1 r2 r3 r4
                obtain ⟨r0, r1, r2, r3, r4⟩ := HC4.out
                rcases zs with _ | _
                · go_wp2_with fail
                  go_ret
                  exact ⟨by rw [HZ.out]; first | rfl | simp, HG4.out⟩
                · go_wp2_with fail
                  refine (HP7.out _ HG4.out).mono ?_
                  rintro e w5 ⟨rfl, g⟩
                  have HG5 := Lib.hid (HG4.out.trans g)
                  have HC5 := Lib.hid (HC4.out.gr g)
                  clear g r0 r1 r2 r3 r4
                  obtain ⟨r0, r1, r2, r3, r4⟩ := HC5.out
                  go_wp2_with fail
                  go_ret
                  exact ⟨by rw [HZ.out]; first | rfl | simp, HG5.out⟩
          · rw [hzp] at HP7
            obtain ⟨_, ⟨a, hal, fa, ea, _, _⟩, ⟨b, hbl, fb, eb, _, _⟩⟩ := joins_facts (kind := 7) (by decide) (by rw [← pair_joins (by decide)]; exact hzp)
            simp only [] at fa ea fb eb
            have HFA2 : Hid (∀ w1, Gr w w1 → Calls Tryz.prog 40 #[.slice (some ⟨bb, off, none⟩) n c, .string key] w1 fun e w' => e = .returned (.int .i64 (a : Int)) ∧ Gr w1 w') := Lib.hid (fun w1 g => by rw [← fInt_some fa]; exact HFK.out w1 g)
            have HFB2 : Hid (∀ w1, Gr w w1 → Calls Tryz.prog 40 #[.slice (some ⟨bb, off, none⟩) n c, .string other] w1 fun e w' => e = .returned (.int .i64 (b : Int)) ∧ Gr w1 w') := Lib.hid (fun w1 g => by rw [← fInt_some fb]; exact HFO.out w1 g)
            have HCA := Lib.hid (HRC.out a hal)
            have HCB := Lib.hid (HRC.out b hbl)
            obtain ⟨xa, hxa⟩ : ∃ x, x = L[a] := ⟨_, rfl⟩
            obtain ⟨xb, hxb⟩ : ∃ x, x = L[b] := ⟨_, rfl⟩
            rw [← hxa] at HCA ea
            rw [← hxb] at HCB eb
            rw [← HN.out] at hal hbl
            have ta0 : (0 : Int) ≤ (a : Int) := by omega
            have ta1 : (a : Int) < (n : Int) := by omega
            have tb0 : (0 : Int) ≤ (b : Int) := by omega
            have tb1 : (b : Int) < (n : Int) := by omega
            obtain ⟨za, hza⟩ : ∃ z, z = decide (xa.start ≠ 0) := ⟨_, rfl⟩
            obtain ⟨zb, hzb⟩ : ∃ z, z = decide (xb.start ≠ 0) := ⟨_, rfl⟩
            have na : (xa.start != 0) = za := by rw [hza]; simp [bne, int_beqR]
            have nb : (xb.start != 0) = zb := by rw [hzb]; simp [bne, int_beqR]
            have HZ : Hid (oneB L i ⟨10, key, other, 0, 0⟩ = (zk && (zm && zs) && (za || zb))) := Lib.hid (by rw [hzk, hzm, hzs]; rw [hza, hzb]; unfold oneB; simp [hzp, ea, eb])
            clear hzk hzm hzs
            clear hza hzb hxa hxb fa fb ea eb hzp
            go_enter Tryz.func65, Tryz.ntmps65
            go_upto_region 2 with (fail)
            change Code.wp Tryz.prog _ _ _ (w.alloc (.cells (ruv ⟨10, key, other, 0, 0⟩) 49))
            rw [← hW]
            clear hW c0 c1 c2 c3 c4
            obtain ⟨r0, r1, r2, r3, r4⟩ := HC1.out
            go_wp2_with fail
            refine (HKE.out _ HG1.out).mono ?_
            rintro e w2 ⟨rfl, g⟩
            have HG2 := Lib.hid (HG1.out.trans g)
            have HC2 := Lib.hid (HC1.out.gr g)
            clear g r0 r1 r2 r3 r4
            obtain ⟨r0, r1, r2, r3, r4⟩ := HC2.out
            rcases zk with _ | _
            · go_wp2_with fail
              go_ret
              exact ⟨by rw [HZ.out]; first | rfl | simp, HG2.out⟩
            · go_wp2_with fail
              refine (HMI.out _ HG2.out).mono ?_
              rintro e w3 ⟨rfl, g⟩
              have HG3 := Lib.hid (HG2.out.trans g)
              have HC3 := Lib.hid (HC2.out.gr g)
              clear g r0 r1 r2 r3 r4
              obtain ⟨r0, r1, r2, r3, r4⟩ := HC3.out
              rcases zm with _ | _
              · go_wp2_with fail
                go_ret
                exact ⟨by rw [HZ.out]; first | rfl | simp, HG3.out⟩
              · go_wp2_with fail
                refine (HST.out _ HG3.out).mono ?_
                rintro e w4 ⟨rfl, g⟩
                have HG4 := Lib.hid (HG3.out.trans g)
                have HC4 := Lib.hid (HC3.out.gr g)
                clear g r0 r1 r2 r3 r4
                obtain ⟨r0, r1, r2, r3, r4⟩ := HC4.out
                rcases zs with _ | _
                · go_wp2_with fail
                  go_ret
                  exact ⟨by rw [HZ.out]; first | rfl | simp, HG4.out⟩
                · go_wp2_with fail
                  refine (HP7.out _ HG4.out).mono ?_
                  rintro e w5 ⟨rfl, g⟩
                  have HG5 := Lib.hid (HG4.out.trans g)
                  have HC5 := Lib.hid (HC4.out.gr g)
                  clear g r0 r1 r2 r3 r4
                  obtain ⟨r0, r1, r2, r3, r4⟩ := HC5.out
                  go_wp2_with fail
                  refine (HFA2.out _ HG5.out).mono ?_
                  rintro e w6 ⟨rfl, g⟩
                  have HG6 := Lib.hid (HG5.out.trans g)
                  have HC6 := Lib.hid (HC5.out.gr g)
                  clear g r0 r1 r2 r3 r4
                  obtain ⟨r0, r1, r2, r3, r4⟩ := HC6.out
                  have ca := (HCA.out.gr HG6.out).2.2.2.2
                  rcases za with _ | _
                  · go_wp2_with fail
                    refine (HFB2.out _ HG6.out).mono ?_
                    rintro e w7 ⟨rfl, g⟩
                    have HG7 := Lib.hid (HG6.out.trans g)
                    have HC7 := Lib.hid (HC6.out.gr g)
                    clear g r0 r1 r2 r3 r4
                    obtain ⟨r0, r1, r2, r3, r4⟩ := HC7.out
                    have cb := (HCB.out.gr HG7.out).2.2.2.2
                    clear ca
                    go_wp2_with fail
                    go_ret
                    exact ⟨by rw [HZ.out]; first | rfl | simp, HG7.out⟩
                  · go_wp2_with fail
                    go_ret
                    exact ⟨by rw [HZ.out]; first | rfl | simp, HG6.out⟩
        · have hstb : (st == 0) = false := by simpa using hst
          have hstn : (st != 0) = true := by simpa using hst
          have HZ : Hid (oneB L i ⟨10, key, other, 0, st⟩ = (zk && (zm && zs) && false)) := Lib.hid (by rw [hzk, hzm, hzs]; unfold oneB; simp [hst])
          clear hzk hzm hzs
          go_enter Tryz.func65, Tryz.ntmps65
          go_upto_region 2 with (fail)
          change Code.wp Tryz.prog _ _ _ (w.alloc (.cells (ruv ⟨10, key, other, 0, st⟩) 49))
          rw [← hW]
          clear hW c0 c1 c2 c3 c4
          obtain ⟨r0, r1, r2, r3, r4⟩ := HC1.out
          go_wp2_with fail
          refine (HKE.out _ HG1.out).mono ?_
          rintro e w2 ⟨rfl, g⟩
          have HG2 := Lib.hid (HG1.out.trans g)
          have HC2 := Lib.hid (HC1.out.gr g)
          clear g r0 r1 r2 r3 r4
          obtain ⟨r0, r1, r2, r3, r4⟩ := HC2.out
          rcases zk with _ | _
          · go_wp2_with fail
            go_ret
            exact ⟨by rw [HZ.out]; first | rfl | simp, HG2.out⟩
          · go_wp2_with fail
            refine (HMI.out _ HG2.out).mono ?_
            rintro e w3 ⟨rfl, g⟩
            have HG3 := Lib.hid (HG2.out.trans g)
            have HC3 := Lib.hid (HC2.out.gr g)
            clear g r0 r1 r2 r3 r4
            obtain ⟨r0, r1, r2, r3, r4⟩ := HC3.out
            rcases zm with _ | _
            · go_wp2_with fail
              go_ret
              exact ⟨by rw [HZ.out]; first | rfl | simp, HG3.out⟩
            · go_wp2_with fail
              refine (HST.out _ HG3.out).mono ?_
              rintro e w4 ⟨rfl, g⟩
              have HG4 := Lib.hid (HG3.out.trans g)
              have HC4 := Lib.hid (HC3.out.gr g)
              clear g r0 r1 r2 r3 r4
              obtain ⟨r0, r1, r2, r3, r4⟩ := HC4.out
              rcases zs with _ | _
              · go_wp2_with fail
                go_ret
                exact ⟨by rw [HZ.out]; first | rfl | simp, HG4.out⟩
              · go_wp2_with fail
                go_ret
                exact ⟨by rw [HZ.out]; first | rfl | simp, HG4.out⟩
      · have hmnb : (mn == 0) = false := by simpa using hmn
        have hmnn : (mn != 0) = true := by simpa using hmn
        have HZ : Hid (oneB L i ⟨10, key, other, mn, st⟩ = (zk && (zm && zs) && false)) := Lib.hid (by rw [hzk, hzm, hzs]; unfold oneB; simp [hmn])
        clear hzk hzm hzs
        go_enter Tryz.func65, Tryz.ntmps65
        go_upto_region 2 with (fail)
        change Code.wp Tryz.prog _ _ _ (w.alloc (.cells (ruv ⟨10, key, other, mn, st⟩) 49))
        rw [← hW]
        clear hW c0 c1 c2 c3 c4
        obtain ⟨r0, r1, r2, r3, r4⟩ := HC1.out
        go_wp2_with fail
        refine (HKE.out _ HG1.out).mono ?_
        rintro e w2 ⟨rfl, g⟩
        have HG2 := Lib.hid (HG1.out.trans g)
        have HC2 := Lib.hid (HC1.out.gr g)
        clear g r0 r1 r2 r3 r4
        obtain ⟨r0, r1, r2, r3, r4⟩ := HC2.out
        rcases zk with _ | _
        · go_wp2_with fail
          go_ret
          exact ⟨by rw [HZ.out]; first | rfl | simp, HG2.out⟩
        · go_wp2_with fail
          refine (HMI.out _ HG2.out).mono ?_
          rintro e w3 ⟨rfl, g⟩
          have HG3 := Lib.hid (HG2.out.trans g)
          have HC3 := Lib.hid (HC2.out.gr g)
          clear g r0 r1 r2 r3 r4
          obtain ⟨r0, r1, r2, r3, r4⟩ := HC3.out
          rcases zm with _ | _
          · go_wp2_with fail
            go_ret
            exact ⟨by rw [HZ.out]; first | rfl | simp, HG3.out⟩
          · go_wp2_with fail
            refine (HST.out _ HG3.out).mono ?_
            rintro e w4 ⟨rfl, g⟩
            have HG4 := Lib.hid (HG3.out.trans g)
            have HC4 := Lib.hid (HC3.out.gr g)
            clear g r0 r1 r2 r3 r4
            obtain ⟨r0, r1, r2, r3, r4⟩ := HC4.out
            rcases zs with _ | _
            · go_wp2_with fail
              go_ret
              exact ⟨by rw [HZ.out]; first | rfl | simp, HG4.out⟩
            · go_wp2_with fail
              go_ret
              exact ⟨by rw [HZ.out]; first | rfl | simp, HG4.out⟩
    · have k9b : (k == 9) = false := by simpa using hk9
      have k10b : (k == 10) = false := by simpa using hk10
      by_cases hlo : 1 ≤ k
      · by_cases hhi : k ≤ 8
        · rcases ho : other.toList.isEmpty with _ | _
          · have HZ : Hid (oneB L i ⟨k, key, other, mn, st⟩ = (zk && (zm && zs) && false)) := Lib.hid (by rw [hzk, hzm, hzs]; unfold oneB; simp [hk9, hk10, ho])
            clear hzk hzm hzs
            go_enter Tryz.func65, Tryz.ntmps65
            go_upto_region 2 with (fail)
            change Code.wp Tryz.prog _ _ _ (w.alloc (.cells (ruv ⟨k, key, other, mn, st⟩) 49))
            rw [← hW]
            clear hW c0 c1 c2 c3 c4
            obtain ⟨r0, r1, r2, r3, r4⟩ := HC1.out
            go_wp2_with fail
            refine (HKE.out _ HG1.out).mono ?_
            rintro e w2 ⟨rfl, g⟩
            have HG2 := Lib.hid (HG1.out.trans g)
            have HC2 := Lib.hid (HC1.out.gr g)
            clear g r0 r1 r2 r3 r4
            obtain ⟨r0, r1, r2, r3, r4⟩ := HC2.out
            rcases zk with _ | _
            · go_wp2_with fail
              go_ret
              exact ⟨by rw [HZ.out]; first | rfl | simp, HG2.out⟩
            · go_wp2_with fail
              refine (HMI.out _ HG2.out).mono ?_
              rintro e w3 ⟨rfl, g⟩
              have HG3 := Lib.hid (HG2.out.trans g)
              have HC3 := Lib.hid (HC2.out.gr g)
              clear g r0 r1 r2 r3 r4
              obtain ⟨r0, r1, r2, r3, r4⟩ := HC3.out
              rcases zm with _ | _
              · go_wp2_with fail
                go_ret
                exact ⟨by rw [HZ.out]; first | rfl | simp, HG3.out⟩
              · go_wp2_with fail
                refine (HST.out _ HG3.out).mono ?_
                rintro e w4 ⟨rfl, g⟩
                have HG4 := Lib.hid (HG3.out.trans g)
                have HC4 := Lib.hid (HC3.out.gr g)
                clear g r0 r1 r2 r3 r4
                obtain ⟨r0, r1, r2, r3, r4⟩ := HC4.out
                rcases zs with _ | _
                · go_wp2_with fail
                  go_ret
                  exact ⟨by rw [HZ.out]; first | rfl | simp, HG4.out⟩
                · go_wp2_with fail
                  go_ret
                  exact ⟨by rw [HZ.out]; first | rfl | simp, HG4.out⟩
          · obtain rfl := nil_iffR.1 ho
            by_cases hk1 : k = 1
            · subst hk1
              obtain ⟨q, hq⟩ : ∃ q, q = decide (mn = 0) := ⟨_, rfl⟩
              have mq : (mn == 0) = q := by rw [int_beqR, hq]
              have HZ : Hid (oneB L i ⟨1, key, ⟨#[]⟩, mn, st⟩ = (zk && (zm && zs) && (zf && q))) := Lib.hid (by rw [hzk, hzm, hzs, hzf]; rw [hq]; unfold oneB; simp [knB, nil_empty2])
              clear hzk hzm hzs hzf
              clear hq
              go_enter Tryz.func65, Tryz.ntmps65
              go_upto_region 2 with (fail)
              change Code.wp Tryz.prog _ _ _ (w.alloc (.cells (ruv ⟨1, key, ⟨#[]⟩, mn, st⟩) 49))
              rw [← hW]
              clear hW c0 c1 c2 c3 c4
              obtain ⟨r0, r1, r2, r3, r4⟩ := HC1.out
              go_wp2_with fail
              refine (HKE.out _ HG1.out).mono ?_
              rintro e w2 ⟨rfl, g⟩
              have HG2 := Lib.hid (HG1.out.trans g)
              have HC2 := Lib.hid (HC1.out.gr g)
              clear g r0 r1 r2 r3 r4
              obtain ⟨r0, r1, r2, r3, r4⟩ := HC2.out
              rcases zk with _ | _
              · go_wp2_with fail
                go_ret
                exact ⟨by rw [HZ.out]; first | rfl | simp, HG2.out⟩
              · go_wp2_with fail
                refine (HMI.out _ HG2.out).mono ?_
                rintro e w3 ⟨rfl, g⟩
                have HG3 := Lib.hid (HG2.out.trans g)
                have HC3 := Lib.hid (HC2.out.gr g)
                clear g r0 r1 r2 r3 r4
                obtain ⟨r0, r1, r2, r3, r4⟩ := HC3.out
                rcases zm with _ | _
                · go_wp2_with fail
                  go_ret
                  exact ⟨by rw [HZ.out]; first | rfl | simp, HG3.out⟩
                · go_wp2_with fail
                  refine (HST.out _ HG3.out).mono ?_
                  rintro e w4 ⟨rfl, g⟩
                  have HG4 := Lib.hid (HG3.out.trans g)
                  have HC4 := Lib.hid (HC3.out.gr g)
                  clear g r0 r1 r2 r3 r4
                  obtain ⟨r0, r1, r2, r3, r4⟩ := HC4.out
                  rcases zs with _ | _
                  · go_wp2_with fail
                    go_ret
                    exact ⟨by rw [HZ.out]; first | rfl | simp, HG4.out⟩
                  · go_wp2_with fail
                    refine (HFK.out _ HG4.out).mono ?_
                    rintro e w5 ⟨rfl, g⟩
                    have HG5 := Lib.hid (HG4.out.trans g)
                    have HC5 := Lib.hid (HC4.out.gr g)
                    clear g r0 r1 r2 r3 r4
                    obtain ⟨r0, r1, r2, r3, r4⟩ := HC5.out
                    rcases zf with _ | _
                    · go_wp2_with fail
                      go_ret
                      exact ⟨by rw [HZ.out]; first | rfl | simp, HG5.out⟩
                    · go_wp2_with fail
                      go_ret
                      exact ⟨by rw [HZ.out]; first | rfl | simp, HG5.out⟩
            · by_cases hk2 : k = 2
              · subst hk2
                obtain ⟨q, hq⟩ : ∃ q, q = decide (mn ≤ st) := ⟨_, rfl⟩
                have mq : decide (mn ≤ st) = q := hq.symm
                have HZ : Hid (oneB L i ⟨2, key, ⟨#[]⟩, mn, st⟩ = (zk && (zm && zs) && (zf && q))) := Lib.hid (by rw [hzk, hzm, hzs, hzf]; rw [hq]; unfold oneB; simp [knB, nil_empty2])
                clear hzk hzm hzs hzf
                clear hq
                go_enter Tryz.func65, Tryz.ntmps65
                go_upto_region 2 with (fail)
                change Code.wp Tryz.prog _ _ _ (w.alloc (.cells (ruv ⟨2, key, ⟨#[]⟩, mn, st⟩) 49))
                rw [← hW]
                clear hW c0 c1 c2 c3 c4
                obtain ⟨r0, r1, r2, r3, r4⟩ := HC1.out
                go_wp2_with fail
                refine (HKE.out _ HG1.out).mono ?_
                rintro e w2 ⟨rfl, g⟩
                have HG2 := Lib.hid (HG1.out.trans g)
                have HC2 := Lib.hid (HC1.out.gr g)
                clear g r0 r1 r2 r3 r4
                obtain ⟨r0, r1, r2, r3, r4⟩ := HC2.out
                rcases zk with _ | _
                · go_wp2_with fail
                  go_ret
                  exact ⟨by rw [HZ.out]; first | rfl | simp, HG2.out⟩
                · go_wp2_with fail
                  refine (HMI.out _ HG2.out).mono ?_
                  rintro e w3 ⟨rfl, g⟩
                  have HG3 := Lib.hid (HG2.out.trans g)
                  have HC3 := Lib.hid (HC2.out.gr g)
                  clear g r0 r1 r2 r3 r4
                  obtain ⟨r0, r1, r2, r3, r4⟩ := HC3.out
                  rcases zm with _ | _
                  · go_wp2_with fail
                    go_ret
                    exact ⟨by rw [HZ.out]; first | rfl | simp, HG3.out⟩
                  · go_wp2_with fail
                    refine (HST.out _ HG3.out).mono ?_
                    rintro e w4 ⟨rfl, g⟩
                    have HG4 := Lib.hid (HG3.out.trans g)
                    have HC4 := Lib.hid (HC3.out.gr g)
                    clear g r0 r1 r2 r3 r4
                    obtain ⟨r0, r1, r2, r3, r4⟩ := HC4.out
                    rcases zs with _ | _
                    · go_wp2_with fail
                      go_ret
                      exact ⟨by rw [HZ.out]; first | rfl | simp, HG4.out⟩
                    · go_wp2_with fail
                      refine (HFK.out _ HG4.out).mono ?_
                      rintro e w5 ⟨rfl, g⟩
                      have HG5 := Lib.hid (HG4.out.trans g)
                      have HC5 := Lib.hid (HC4.out.gr g)
                      clear g r0 r1 r2 r3 r4
                      obtain ⟨r0, r1, r2, r3, r4⟩ := HC5.out
                      rcases zf with _ | _
                      · go_wp2_with fail
                        go_ret
                        exact ⟨by rw [HZ.out]; first | rfl | simp, HG5.out⟩
                      · go_wp2_with fail
                        go_ret
                        exact ⟨by rw [HZ.out]; first | rfl | simp, HG5.out⟩
              · by_cases hk7 : k = 7
                · subst hk7
                  by_cases hmn : mn = 0
                  · subst hmn
                    by_cases hst : st = 0
                    · subst hst
                      have HZ : Hid (oneB L i ⟨7, key, ⟨#[]⟩, 0, 0⟩ = (zk && (zm && zs) && (zf && true))) := Lib.hid (by rw [hzk, hzm, hzs, hzf]; unfold oneB; simp [knB, nil_empty2])
                      clear hzk hzm hzs hzf
                      go_enter Tryz.func65, Tryz.ntmps65
                      go_upto_region 2 with (fail)
                      change Code.wp Tryz.prog _ _ _ (w.alloc (.cells (ruv ⟨7, key, ⟨#[]⟩, 0, 0⟩) 49))
                      rw [← hW]
                      clear hW c0 c1 c2 c3 c4
                      obtain ⟨r0, r1, r2, r3, r4⟩ := HC1.out
                      go_wp2_with fail
                      refine (HKE.out _ HG1.out).mono ?_
                      rintro e w2 ⟨rfl, g⟩
                      have HG2 := Lib.hid (HG1.out.trans g)
                      have HC2 := Lib.hid (HC1.out.gr g)
                      clear g r0 r1 r2 r3 r4
                      obtain ⟨r0, r1, r2, r3, r4⟩ := HC2.out
                      rcases zk with _ | _
                      · go_wp2_with fail
                        go_ret
                        exact ⟨by rw [HZ.out]; first | rfl | simp, HG2.out⟩
                      · go_wp2_with fail
                        refine (HMI.out _ HG2.out).mono ?_
                        rintro e w3 ⟨rfl, g⟩
                        have HG3 := Lib.hid (HG2.out.trans g)
                        have HC3 := Lib.hid (HC2.out.gr g)
                        clear g r0 r1 r2 r3 r4
                        obtain ⟨r0, r1, r2, r3, r4⟩ := HC3.out
                        rcases zm with _ | _
                        · go_wp2_with fail
                          go_ret
                          exact ⟨by rw [HZ.out]; first | rfl | simp, HG3.out⟩
                        · go_wp2_with fail
                          refine (HST.out _ HG3.out).mono ?_
                          rintro e w4 ⟨rfl, g⟩
                          have HG4 := Lib.hid (HG3.out.trans g)
                          have HC4 := Lib.hid (HC3.out.gr g)
                          clear g r0 r1 r2 r3 r4
                          obtain ⟨r0, r1, r2, r3, r4⟩ := HC4.out
                          rcases zs with _ | _
                          · go_wp2_with fail
                            go_ret
                            exact ⟨by rw [HZ.out]; first | rfl | simp, HG4.out⟩
                          · go_wp2_with fail
                            refine (HFK.out _ HG4.out).mono ?_
                            rintro e w5 ⟨rfl, g⟩
                            have HG5 := Lib.hid (HG4.out.trans g)
                            have HC5 := Lib.hid (HC4.out.gr g)
                            clear g r0 r1 r2 r3 r4
                            obtain ⟨r0, r1, r2, r3, r4⟩ := HC5.out
                            rcases zf with _ | _
                            · go_wp2_with fail
                              go_ret
                              exact ⟨by rw [HZ.out]; first | rfl | simp, HG5.out⟩
                            · go_wp2_with fail
                              go_ret
                              exact ⟨by rw [HZ.out]; first | rfl | simp, HG5.out⟩
                    · have hstb : (st == 0) = false := by simpa using hst
                      have hstn : (st != 0) = true := by simpa using hst
                      obtain ⟨q, hq⟩ : ∃ q, q = decide (st = 1) := ⟨_, rfl⟩
                      have mq : (st == 1) = q := by rw [int_beqR, hq]
                      have HZ : Hid (oneB L i ⟨7, key, ⟨#[]⟩, 0, st⟩ = (zk && (zm && zs) && (zf && q))) := Lib.hid (by rw [hzk, hzm, hzs, hzf]; rw [hq]; unfold oneB; simp [knB, nil_empty2, hst])
                      clear hzk hzm hzs hzf
                      clear hq
                      go_enter Tryz.func65, Tryz.ntmps65
                      go_upto_region 2 with (fail)
                      change Code.wp Tryz.prog _ _ _ (w.alloc (.cells (ruv ⟨7, key, ⟨#[]⟩, 0, st⟩) 49))
                      rw [← hW]
                      clear hW c0 c1 c2 c3 c4
                      obtain ⟨r0, r1, r2, r3, r4⟩ := HC1.out
                      go_wp2_with fail
                      refine (HKE.out _ HG1.out).mono ?_
                      rintro e w2 ⟨rfl, g⟩
                      have HG2 := Lib.hid (HG1.out.trans g)
                      have HC2 := Lib.hid (HC1.out.gr g)
                      clear g r0 r1 r2 r3 r4
                      obtain ⟨r0, r1, r2, r3, r4⟩ := HC2.out
                      rcases zk with _ | _
                      · go_wp2_with fail
                        go_ret
                        exact ⟨by rw [HZ.out]; first | rfl | simp, HG2.out⟩
                      · go_wp2_with fail
                        refine (HMI.out _ HG2.out).mono ?_
                        rintro e w3 ⟨rfl, g⟩
                        have HG3 := Lib.hid (HG2.out.trans g)
                        have HC3 := Lib.hid (HC2.out.gr g)
                        clear g r0 r1 r2 r3 r4
                        obtain ⟨r0, r1, r2, r3, r4⟩ := HC3.out
                        rcases zm with _ | _
                        · go_wp2_with fail
                          go_ret
                          exact ⟨by rw [HZ.out]; first | rfl | simp, HG3.out⟩
                        · go_wp2_with fail
                          refine (HST.out _ HG3.out).mono ?_
                          rintro e w4 ⟨rfl, g⟩
                          have HG4 := Lib.hid (HG3.out.trans g)
                          have HC4 := Lib.hid (HC3.out.gr g)
                          clear g r0 r1 r2 r3 r4
                          obtain ⟨r0, r1, r2, r3, r4⟩ := HC4.out
                          rcases zs with _ | _
                          · go_wp2_with fail
                            go_ret
                            exact ⟨by rw [HZ.out]; first | rfl | simp, HG4.out⟩
                          · go_wp2_with fail
                            refine (HFK.out _ HG4.out).mono ?_
                            rintro e w5 ⟨rfl, g⟩
                            have HG5 := Lib.hid (HG4.out.trans g)
                            have HC5 := Lib.hid (HC4.out.gr g)
                            clear g r0 r1 r2 r3 r4
                            obtain ⟨r0, r1, r2, r3, r4⟩ := HC5.out
                            rcases zf with _ | _
                            · go_wp2_with fail
                              go_ret
                              exact ⟨by rw [HZ.out]; first | rfl | simp, HG5.out⟩
                            · go_wp2_with fail
                              go_ret
                              exact ⟨by rw [HZ.out]; first | rfl | simp, HG5.out⟩
                  · have hmnb : (mn == 0) = false := by simpa using hmn
                    have hmnn : (mn != 0) = true := by simpa using hmn
                    have HZ : Hid (oneB L i ⟨7, key, ⟨#[]⟩, mn, st⟩ = (zk && (zm && zs) && (zf && false))) := Lib.hid (by rw [hzk, hzm, hzs, hzf]; unfold oneB; simp [knB, nil_empty2, hmn])
                    clear hzk hzm hzs hzf
                    go_enter Tryz.func65, Tryz.ntmps65
                    go_upto_region 2 with (fail)
                    change Code.wp Tryz.prog _ _ _ (w.alloc (.cells (ruv ⟨7, key, ⟨#[]⟩, mn, st⟩) 49))
                    rw [← hW]
                    clear hW c0 c1 c2 c3 c4
                    obtain ⟨r0, r1, r2, r3, r4⟩ := HC1.out
                    go_wp2_with fail
                    refine (HKE.out _ HG1.out).mono ?_
                    rintro e w2 ⟨rfl, g⟩
                    have HG2 := Lib.hid (HG1.out.trans g)
                    have HC2 := Lib.hid (HC1.out.gr g)
                    clear g r0 r1 r2 r3 r4
                    obtain ⟨r0, r1, r2, r3, r4⟩ := HC2.out
                    rcases zk with _ | _
                    · go_wp2_with fail
                      go_ret
                      exact ⟨by rw [HZ.out]; first | rfl | simp, HG2.out⟩
                    · go_wp2_with fail
                      refine (HMI.out _ HG2.out).mono ?_
                      rintro e w3 ⟨rfl, g⟩
                      have HG3 := Lib.hid (HG2.out.trans g)
                      have HC3 := Lib.hid (HC2.out.gr g)
                      clear g r0 r1 r2 r3 r4
                      obtain ⟨r0, r1, r2, r3, r4⟩ := HC3.out
                      rcases zm with _ | _
                      · go_wp2_with fail
                        go_ret
                        exact ⟨by rw [HZ.out]; first | rfl | simp, HG3.out⟩
                      · go_wp2_with fail
                        refine (HST.out _ HG3.out).mono ?_
                        rintro e w4 ⟨rfl, g⟩
                        have HG4 := Lib.hid (HG3.out.trans g)
                        have HC4 := Lib.hid (HC3.out.gr g)
                        clear g r0 r1 r2 r3 r4
                        obtain ⟨r0, r1, r2, r3, r4⟩ := HC4.out
                        rcases zs with _ | _
                        · go_wp2_with fail
                          go_ret
                          exact ⟨by rw [HZ.out]; first | rfl | simp, HG4.out⟩
                        · go_wp2_with fail
                          refine (HFK.out _ HG4.out).mono ?_
                          rintro e w5 ⟨rfl, g⟩
                          have HG5 := Lib.hid (HG4.out.trans g)
                          have HC5 := Lib.hid (HC4.out.gr g)
                          clear g r0 r1 r2 r3 r4
                          obtain ⟨r0, r1, r2, r3, r4⟩ := HC5.out
                          rcases zf with _ | _
                          · go_wp2_with fail
                            go_ret
                            exact ⟨by rw [HZ.out]; first | rfl | simp, HG5.out⟩
                          · go_wp2_with fail
                            go_ret
                            exact ⟨by rw [HZ.out]; first | rfl | simp, HG5.out⟩
                · have k1b : (k == 1) = false := by simpa using hk1
                  have k2b : (k == 2) = false := by simpa using hk2
                  have k7b : (k == 7) = false := by simpa using hk7
                  by_cases hmn : mn = 0
                  · subst hmn
                    obtain ⟨q, hq⟩ : ∃ q, q = decide (st = 0) := ⟨_, rfl⟩
                    have mq : (st == 0) = q := by rw [int_beqR, hq]
                    have HZ : Hid (oneB L i ⟨k, key, ⟨#[]⟩, 0, st⟩ = (zk && (zm && zs) && (zf && q))) := Lib.hid (by rw [hzk, hzm, hzs, hzf]; rw [hq]; unfold oneB; simp [knB, nil_empty2, hk9, hk10, hk1, hk2, hk7, hlo, hhi])
                    clear hzk hzm hzs hzf
                    clear hq
                    go_enter Tryz.func65, Tryz.ntmps65
                    go_upto_region 2 with (fail)
                    change Code.wp Tryz.prog _ _ _ (w.alloc (.cells (ruv ⟨k, key, ⟨#[]⟩, 0, st⟩) 49))
                    rw [← hW]
                    clear hW c0 c1 c2 c3 c4
                    obtain ⟨r0, r1, r2, r3, r4⟩ := HC1.out
                    go_wp2_with fail
                    refine (HKE.out _ HG1.out).mono ?_
                    rintro e w2 ⟨rfl, g⟩
                    have HG2 := Lib.hid (HG1.out.trans g)
                    have HC2 := Lib.hid (HC1.out.gr g)
                    clear g r0 r1 r2 r3 r4
                    obtain ⟨r0, r1, r2, r3, r4⟩ := HC2.out
                    rcases zk with _ | _
                    · go_wp2_with fail
                      go_ret
                      exact ⟨by rw [HZ.out]; first | rfl | simp, HG2.out⟩
                    · go_wp2_with fail
                      refine (HMI.out _ HG2.out).mono ?_
                      rintro e w3 ⟨rfl, g⟩
                      have HG3 := Lib.hid (HG2.out.trans g)
                      have HC3 := Lib.hid (HC2.out.gr g)
                      clear g r0 r1 r2 r3 r4
                      obtain ⟨r0, r1, r2, r3, r4⟩ := HC3.out
                      rcases zm with _ | _
                      · go_wp2_with fail
                        go_ret
                        exact ⟨by rw [HZ.out]; first | rfl | simp, HG3.out⟩
                      · go_wp2_with fail
                        refine (HST.out _ HG3.out).mono ?_
                        rintro e w4 ⟨rfl, g⟩
                        have HG4 := Lib.hid (HG3.out.trans g)
                        have HC4 := Lib.hid (HC3.out.gr g)
                        clear g r0 r1 r2 r3 r4
                        obtain ⟨r0, r1, r2, r3, r4⟩ := HC4.out
                        rcases zs with _ | _
                        · go_wp2_with fail
                          go_ret
                          exact ⟨by rw [HZ.out]; first | rfl | simp, HG4.out⟩
                        · go_wp2_with fail
                          refine (HFK.out _ HG4.out).mono ?_
                          rintro e w5 ⟨rfl, g⟩
                          have HG5 := Lib.hid (HG4.out.trans g)
                          have HC5 := Lib.hid (HC4.out.gr g)
                          clear g r0 r1 r2 r3 r4
                          obtain ⟨r0, r1, r2, r3, r4⟩ := HC5.out
                          rcases zf with _ | _
                          · go_wp2_with fail
                            go_ret
                            exact ⟨by rw [HZ.out]; first | rfl | simp, HG5.out⟩
                          · go_wp2_with fail
                            go_ret
                            exact ⟨by rw [HZ.out]; first | rfl | simp, HG5.out⟩
                  · have hmnb : (mn == 0) = false := by simpa using hmn
                    have hmnn : (mn != 0) = true := by simpa using hmn
                    have HZ : Hid (oneB L i ⟨k, key, ⟨#[]⟩, mn, st⟩ = (zk && (zm && zs) && (zf && false))) := Lib.hid (by rw [hzk, hzm, hzs, hzf]; unfold oneB; simp [knB, nil_empty2, hk9, hk10, hk1, hk2, hk7, hmn])
                    clear hzk hzm hzs hzf
                    go_enter Tryz.func65, Tryz.ntmps65
                    go_upto_region 2 with (fail)
                    change Code.wp Tryz.prog _ _ _ (w.alloc (.cells (ruv ⟨k, key, ⟨#[]⟩, mn, st⟩) 49))
                    rw [← hW]
                    clear hW c0 c1 c2 c3 c4
                    obtain ⟨r0, r1, r2, r3, r4⟩ := HC1.out
                    go_wp2_with fail
                    refine (HKE.out _ HG1.out).mono ?_
                    rintro e w2 ⟨rfl, g⟩
                    have HG2 := Lib.hid (HG1.out.trans g)
                    have HC2 := Lib.hid (HC1.out.gr g)
                    clear g r0 r1 r2 r3 r4
                    obtain ⟨r0, r1, r2, r3, r4⟩ := HC2.out
                    rcases zk with _ | _
                    · go_wp2_with fail
                      go_ret
                      exact ⟨by rw [HZ.out]; first | rfl | simp, HG2.out⟩
                    · go_wp2_with fail
                      refine (HMI.out _ HG2.out).mono ?_
                      rintro e w3 ⟨rfl, g⟩
                      have HG3 := Lib.hid (HG2.out.trans g)
                      have HC3 := Lib.hid (HC2.out.gr g)
                      clear g r0 r1 r2 r3 r4
                      obtain ⟨r0, r1, r2, r3, r4⟩ := HC3.out
                      rcases zm with _ | _
                      · go_wp2_with fail
                        go_ret
                        exact ⟨by rw [HZ.out]; first | rfl | simp, HG3.out⟩
                      · go_wp2_with fail
                        refine (HST.out _ HG3.out).mono ?_
                        rintro e w4 ⟨rfl, g⟩
                        have HG4 := Lib.hid (HG3.out.trans g)
                        have HC4 := Lib.hid (HC3.out.gr g)
                        clear g r0 r1 r2 r3 r4
                        obtain ⟨r0, r1, r2, r3, r4⟩ := HC4.out
                        rcases zs with _ | _
                        · go_wp2_with fail
                          go_ret
                          exact ⟨by rw [HZ.out]; first | rfl | simp, HG4.out⟩
                        · go_wp2_with fail
                          refine (HFK.out _ HG4.out).mono ?_
                          rintro e w5 ⟨rfl, g⟩
                          have HG5 := Lib.hid (HG4.out.trans g)
                          have HC5 := Lib.hid (HC4.out.gr g)
                          clear g r0 r1 r2 r3 r4
                          obtain ⟨r0, r1, r2, r3, r4⟩ := HC5.out
                          rcases zf with _ | _
                          · go_wp2_with fail
                            go_ret
                            exact ⟨by rw [HZ.out]; first | rfl | simp, HG5.out⟩
                          · go_wp2_with fail
                            go_ret
                            exact ⟨by rw [HZ.out]; first | rfl | simp, HG5.out⟩
        · have k8n : 8 < k := by omega
          have HZ : Hid (oneB L i ⟨k, key, other, mn, st⟩ = (zk && (zm && zs) && false)) := Lib.hid (by rw [hzk, hzm, hzs]; unfold oneB; simp [hk9, hk10, knB, hhi])
          clear hzk hzm hzs
          go_enter Tryz.func65, Tryz.ntmps65
          go_upto_region 2 with (fail)
          change Code.wp Tryz.prog _ _ _ (w.alloc (.cells (ruv ⟨k, key, other, mn, st⟩) 49))
          rw [← hW]
          clear hW c0 c1 c2 c3 c4
          obtain ⟨r0, r1, r2, r3, r4⟩ := HC1.out
          go_wp2_with fail
          refine (HKE.out _ HG1.out).mono ?_
          rintro e w2 ⟨rfl, g⟩
          have HG2 := Lib.hid (HG1.out.trans g)
          have HC2 := Lib.hid (HC1.out.gr g)
          clear g r0 r1 r2 r3 r4
          obtain ⟨r0, r1, r2, r3, r4⟩ := HC2.out
          rcases zk with _ | _
          · go_wp2_with fail
            go_ret
            exact ⟨by rw [HZ.out]; first | rfl | simp, HG2.out⟩
          · go_wp2_with fail
            refine (HMI.out _ HG2.out).mono ?_
            rintro e w3 ⟨rfl, g⟩
            have HG3 := Lib.hid (HG2.out.trans g)
            have HC3 := Lib.hid (HC2.out.gr g)
            clear g r0 r1 r2 r3 r4
            obtain ⟨r0, r1, r2, r3, r4⟩ := HC3.out
            rcases zm with _ | _
            · go_wp2_with fail
              go_ret
              exact ⟨by rw [HZ.out]; first | rfl | simp, HG3.out⟩
            · go_wp2_with fail
              refine (HST.out _ HG3.out).mono ?_
              rintro e w4 ⟨rfl, g⟩
              have HG4 := Lib.hid (HG3.out.trans g)
              have HC4 := Lib.hid (HC3.out.gr g)
              clear g r0 r1 r2 r3 r4
              obtain ⟨r0, r1, r2, r3, r4⟩ := HC4.out
              rcases zs with _ | _
              · go_wp2_with fail
                go_ret
                exact ⟨by rw [HZ.out]; first | rfl | simp, HG4.out⟩
              · go_wp2_with fail
                go_ret
                exact ⟨by rw [HZ.out]; first | rfl | simp, HG4.out⟩
      · have k1n : k < 1 := by omega
        have HZ : Hid (oneB L i ⟨k, key, other, mn, st⟩ = (zk && (zm && zs) && false)) := Lib.hid (by rw [hzk, hzm, hzs]; unfold oneB; simp [hk9, hk10, knB, hlo])
        clear hzk hzm hzs
        go_enter Tryz.func65, Tryz.ntmps65
        go_upto_region 2 with (fail)
        change Code.wp Tryz.prog _ _ _ (w.alloc (.cells (ruv ⟨k, key, other, mn, st⟩) 49))
        rw [← hW]
        clear hW c0 c1 c2 c3 c4
        obtain ⟨r0, r1, r2, r3, r4⟩ := HC1.out
        go_wp2_with fail
        refine (HKE.out _ HG1.out).mono ?_
        rintro e w2 ⟨rfl, g⟩
        have HG2 := Lib.hid (HG1.out.trans g)
        have HC2 := Lib.hid (HC1.out.gr g)
        clear g r0 r1 r2 r3 r4
        obtain ⟨r0, r1, r2, r3, r4⟩ := HC2.out
        rcases zk with _ | _
        · go_wp2_with fail
          go_ret
          exact ⟨by rw [HZ.out]; first | rfl | simp, HG2.out⟩
        · go_wp2_with fail
          refine (HMI.out _ HG2.out).mono ?_
          rintro e w3 ⟨rfl, g⟩
          have HG3 := Lib.hid (HG2.out.trans g)
          have HC3 := Lib.hid (HC2.out.gr g)
          clear g r0 r1 r2 r3 r4
          obtain ⟨r0, r1, r2, r3, r4⟩ := HC3.out
          rcases zm with _ | _
          · go_wp2_with fail
            go_ret
            exact ⟨by rw [HZ.out]; first | rfl | simp, HG3.out⟩
          · go_wp2_with fail
            refine (HST.out _ HG3.out).mono ?_
            rintro e w4 ⟨rfl, g⟩
            have HG4 := Lib.hid (HG3.out.trans g)
            have HC4 := Lib.hid (HC3.out.gr g)
            clear g r0 r1 r2 r3 r4
            obtain ⟨r0, r1, r2, r3, r4⟩ := HC4.out
            rcases zs with _ | _
            · go_wp2_with fail
              go_ret
              exact ⟨by rw [HZ.out]; first | rfl | simp, HG4.out⟩
            · go_wp2_with fail
              go_ret
              exact ⟨by rw [HZ.out]; first | rfl | simp, HG4.out⟩
set_option maxRecDepth 100000 in
set_option maxHeartbeats 1000000 in
theorem rcheck14_any (v : Value) (L : List RU) (hks : ∀ r ∈ L, r.key.size ≤ 9223372036854775807) (w : World) (hv : UV w v L) :
    Calls Tryz.prog 22 #[v] w fun e w' => e = .returned (.int .i64 (checkD L)) ∧ Gr w w' := by
  have HV := Lib.hid hv
  obtain ⟨A, c, rfl, l1, ⟨l2, _⟩, l3⟩ := hv
  have l2' : c ≤ 9223372036854775807 := l2
  obtain ⟨n, hn⟩ : ∃ n, n = L.length := ⟨_, rfl⟩
  have HN := Lib.hid hn
  have HM : Hid (∀ i (hi : i < L.length) (w1 : World), Gr w w1 → Calls Tryz.prog 65 #[.slice A n c, .int .i64 (i : Int)] w1 fun e w' => e = .returned (.bool (oneB L i L[i])) ∧ Gr w1 w') := Lib.hid (fun i hi w1 g => by rw [hn]; exact rone_any _ L i hi hks w1 (HV.out.gr g))
  rw [← hn] at l1 ⊢
  by_cases hb : 64 < n
  · have t1 : (64 : Int) < (n : Int) := by omega
    have HZ : Hid (checkD L = 4) := Lib.hid (by unfold checkD; rw [if_pos (by rw [← HN.out]; exact hb)])
    clear hn l3 l2 hks
    go_enter Tryz.func22, Tryz.ntmps22
    go_wp2_with fail
    go_ret
    exact ⟨by rw [HZ.out]; rfl, Gr.refl _⟩
  · have t1 : ¬ (64 : Int) < (n : Int) := by omega
    have HB : Hid (¬ 64 < L.length) := Lib.hid (by rw [← HN.out]; exact hb)
    clear hn l3 l2 hks
    go_enter Tryz.func22, Tryz.ntmps22
    go_wp2_with fail
    go_loopw [3] (fun i wr => ∃ j : Nat, j ≤ n ∧ i = .int .i64 (j : Int) ∧ Gr w wr ∧ Hid (∀ q (hq : q < L.length), q < j → oneB L q L[q] = true)) (fun i _ => n - (intOf i).toNat)
    case atStart => exact ⟨0, Nat.zero_le _, rfl, Gr.refl _, Lib.hid (fun _ _ h => absurd h (Nat.not_lt_zero _))⟩
    case round =>
      obtain ⟨j, hj, rfl, hgr, HAL⟩ := hrel
      have HGR := Lib.hid hgr
      by_cases hlt : j < n
      · have hjL : j < L.length := by rw [← HN.out]; exact hlt
        have HC := Lib.hid (HM.out j hjL wr hgr)
        have u1 : (j : Int) < (n : Int) := by omega
        have u2 : wrap64 ((j : Int) + 1) = ((j + 1 : Nat) : Int) := by unfold wrap64; omega
        rcases hq : oneB L j L[j] with _ | _
        · rw [hq] at HC
          have HZ : Hid (checkD L = 140) := Lib.hid (by unfold checkD; rw [if_neg HB.out, if_neg (by rw [allAt_bad hjL hq]; exact Bool.false_ne_true)])
          clear hq hgr hj hjL
          go_wp2_with fail
          refine HC.out.mono ?_
          rintro e w1 ⟨rfl, g⟩
          have HG1 := Lib.hid (HGR.out.trans g)
          clear g
          go_wp2_with fail
          go_ret
          exact ⟨by rw [HZ.out]; rfl, HG1.out⟩
        · rw [hq] at HC
          have HA2 : Hid (∀ q (hq : q < L.length), q < j + 1 → oneB L q L[q] = true) := Lib.hid fun q hqq hjk => by
            by_cases e : q = j
            · subst e; exact hq
            · exact HAL.out q hqq (by omega)
          clear hq hgr hj hjL
          go_wp2_with fail
          refine HC.out.mono ?_
          rintro e w1 ⟨rfl, g⟩
          have HG1 := Lib.hid (HGR.out.trans g)
          clear g
          go_wp2_with fail
          go_roundw
          case rel => exact ⟨j + 1, by omega, by go_num, HG1.out, HA2⟩
          case measure => simp [intOf]; omega
      · have u1 : ¬ (j : Int) < (n : Int) := by omega
        have HZ : Hid (checkD L = 0) := Lib.hid (by unfold checkD; rw [if_neg HB.out, if_pos (allAt_good fun q hq => HAL.out q hq (by rw [← HN.out] at hq; omega))])
        clear hgr
        go_wp2_with fail
        go_ret
        exact ⟨by rw [HZ.out]; rfl, HGR.out⟩
end Go.Proofs.YtnjmgknicffcbaaGreatDoor
