/- Walk: the program's Form. -/
import Derived.Test.YtnjmgknicffcbaaGreatDoorZr47
namespace Go.Proofs.YtnjmgknicffcbaaGreatDoor
open Go.RowKit Go.Joins
set_option linter.unusedSimpArgs false
set_option linter.unusedVariables false

def txO (m : Int) (ops : List TO) : TX := ⟨m, 1, 1, fun _ => 0, ops⟩
theorem okTx_ops {m : Int} {ops : List TO} : okTx (txO m ops) ↔ okOpsB m ops = true := by
  unfold okTx okHead okOpsB txO
  rw [Bool.and_eq_true, decide_eq_true_eq, List.all_eq_true]
  simp only []
  constructor
  · rintro ⟨⟨a, b, _⟩, c, d, e⟩
    exact ⟨⟨a, b, c, d⟩, fun o ho => decide_eq_true (e o ho)⟩
  · rintro ⟨⟨a, b, c, d⟩, e⟩
    exact ⟨⟨a, b, Nat.le_refl _, by first | trivial | exact ⟨Nat.le_refl _, rfl⟩⟩, c, d, fun o ho => of_decide_eq_true (e o ho)⟩
theorem checkN_ops (m : Int) (ops : List TO) : checkN (txO m ops) = if okOpsB m ops = true then 0 else 80 := by
  unfold checkN
  by_cases h : okOpsB m ops = true
  · rw [if_pos (okTx_ops.2 h), if_pos h]
  · rw [if_neg (fun q => h (okTx_ops.1 q)), if_neg h]
theorem scan_drop {L : List RU} {ops : List TO} {j : Nat} (hj : j < ops.length) : scanE L (ops.drop j) = if (ruleR L ops[j].key).k = 0 then 140 else if fitsB (ruleR L ops[j].key).k ops[j].kind = false then 100 else scanE L (ops.drop (j + 1)) := by
  rw [List.drop_eq_getElem_cons hj]
  rfl
set_option maxRecDepth 100000 in
set_option maxHeartbeats 8000000 in
theorem form_any (v vo : Value) (L : List RU) (m : Int) (ops : List TO) (hks : ∀ r ∈ L, r.key.size ≤ 9223372036854775807) (hos : ∀ o ∈ ops, o.key.size ≤ 9223372036854775807 ∧ o.elem.size ≤ 281474976710656) (w : World) (hv : UV w v L) (ho : TOV w vo ops) (hp : Laid w) :
    Calls Tryz.prog 24 #[v, .int .i64 m, vo] w fun e w' => e = .returned (.int .i64 (formC L m ops)) ∧ Gr w w' := by
  have HCK := Lib.hid (rucheck_any v L hks w hv hp)
  have HTX := Lib.hid (fun w1 (g : Gr w w1) => check8_any (txO m ops) vo (show (1 : Nat) < 18446744073709551616 by decide) (fun o h => (hos o h).1) w1 (ho.gr g))
  have HRU := Lib.hid (fun key w1 (g : Gr w w1) => ruleOf_any v L key w1 (hv.gr g))
  have HPA := Lib.hid (fun o (ho2 : o ∈ ops) w1 (g : Gr w w1) => paid_any v vo L m ops o (hos o ho2).2 w1 (hv.gr g) (ho.gr g) (hp.gr g))
  have HFT := Lib.hid (fun k op w1 => fits_any k op w1)
  obtain ⟨A, c, rfl, la, lb, lc⟩ := hv
  obtain ⟨B, d, rfl, m1, ⟨m2, _⟩, m3⟩ := ho
  have m2' : d ≤ 9223372036854775807 := m2
  have HOC := Lib.hid m3
  obtain ⟨N, hN⟩ : ∃ N, N = L.length := ⟨_, rfl⟩
  obtain ⟨n, hn⟩ : ∃ n, n = ops.length := ⟨_, rfl⟩
  have HN := Lib.hid hn
  have HTX : Hid (∀ w1, Gr w w1 → Calls Tryz.prog 67 #[.agg #[.int .i64 m, .int .u64 1, .int .u64 1, .int .u64 0, .int .u64 0, .int .u64 0, .int .u64 0, .int .u64 0, .int .u64 0, .int .u64 0, .int .u64 0, .slice B n d]] w1 fun e w' => e = .returned (.int .i64 ((if okOpsB m ops = true then 0 else 80 : Nat) : Int)) ∧ Gr w1 w') := Lib.hid (fun w1 g => by rw [← checkN_ops, hn]; exact HTX.out w1 g)
  rw [← hN] at HCK HRU HPA ⊢
  rw [← hn] at HPA m1 ⊢
  obtain ⟨ce, hce⟩ : ∃ x, x = checkC L := ⟨_, rfl⟩
  rw [← hce] at HCK
  have HCE := Lib.hid hce
  clear hN hn la lb lc m2 m3 hks hos hp hce
  by_cases h0 : ce = 0
  case neg =>
    have h0b : (ce != 0) = true := by simpa using h0
    have HZ : Hid (formC L m ops = ce) := Lib.hid (by unfold formC; rw [← HCE.out, if_pos h0])
    clear h0
    go_enter Tryz.func24, Tryz.ntmps24
    go_wp2_with fail
    refine HCK.out.mono ?_
    rintro e w1 ⟨rfl, g⟩
    have HG1 := Lib.hid g
    clear g
    go_wp2_with fail
    go_ret
    exact ⟨by rw [HZ.out]; rfl, HG1.out⟩
  subst h0
  rcases hop : okOpsB m ops with _ | _
  · rw [hop] at HTX
    have HTX : Hid (∀ w1, Gr w w1 → Calls Tryz.prog 67 #[.agg #[.int .i64 m, .int .u64 1, .int .u64 1, .int .u64 0, .int .u64 0, .int .u64 0, .int .u64 0, .int .u64 0, .int .u64 0, .int .u64 0, .int .u64 0, .slice B n d]] w1 fun e w' => e = .returned (.int .i64 80) ∧ Gr w1 w') := HTX
    have HZ : Hid (formC L m ops = 80) := Lib.hid (by unfold formC; rw [← HCE.out, if_neg (by decide), if_pos hop])
    clear hop
    go_enter Tryz.func24, Tryz.ntmps24
    go_wp2_with fail
    refine HCK.out.mono ?_
    rintro e w1 ⟨rfl, g⟩
    have HG1 := Lib.hid g
    clear g
    go_wp2_with fail
    refine (HTX.out _ HG1.out).mono ?_
    rintro e w2 ⟨rfl, g⟩
    have HG2 := Lib.hid (HG1.out.trans g)
    clear g
    go_wp2_with fail
    go_ret
    exact ⟨by rw [HZ.out]; rfl, HG2.out⟩
  rw [hop] at HTX
  have HTX : Hid (∀ w1, Gr w w1 → Calls Tryz.prog 67 #[.agg #[.int .i64 m, .int .u64 1, .int .u64 1, .int .u64 0, .int .u64 0, .int .u64 0, .int .u64 0, .int .u64 0, .int .u64 0, .int .u64 0, .int .u64 0, .slice B n d]] w1 fun e w' => e = .returned (.int .i64 0) ∧ Gr w1 w') := HTX
  have HFC : Hid (formC L m ops = if scanE L ops ≠ 0 then scanE L ops else if ops.all (paidB L m ops) = true then 0 else 141) := Lib.hid (by unfold formC; rw [← HCE.out, if_neg (by decide), if_neg (by rw [hop]; decide)])
  clear hop
  go_enter Tryz.func24, Tryz.ntmps24
  go_wp2_with fail
  refine HCK.out.mono ?_
  rintro e w1 ⟨rfl, g⟩
  have HG1 := Lib.hid g
  clear g
  go_wp2_with fail
  refine (HTX.out _ HG1.out).mono ?_
  rintro e w2 ⟨rfl, g⟩
  have HG2 := Lib.hid (HG1.out.trans g)
  clear g
  go_wp2_with fail
  go_loopw [10, 11, 28] (fun s10 s11 i wr => ∃ j : Nat, j ≤ n ∧ i = .int .i64 (j : Int) ∧ Gr w wr ∧ Hid (scanE L (ops.drop j) = scanE L ops)) (fun s10 s11 i _ => n - (intOf i).toNat)
  case atStart => exact ⟨0, Nat.zero_le _, rfl, HG2.out, Lib.hid rfl⟩
  case round =>
    obtain ⟨j, hj, rfl, hgr, HSC⟩ := hrel
    by_cases hlt : j < n
    · have hjL : j < ops.length := by rw [← HN.out]; exact hlt
      have hdr := scan_drop (L := L) hjL
      obtain ⟨b, off, rfl, q4⟩ := HOC.out j hjL
      obtain ⟨o, hof⟩ : ∃ o, o = ops[j] := ⟨_, rfl⟩
      rw [← hof] at q4 hdr
      obtain ⟨a0, a1, a2, a3⟩ := q4.gr hgr
      have u0 : (0 : Int) ≤ (j : Int) := by omega
      have u1 : (j : Int) < (n : Int) := by omega
      have u2 : wrap64 ((j : Int) + 1) = ((j + 1 : Nat) : Int) := by unfold wrap64; omega
      obtain ⟨W3, hW3, hg3, hb3⟩ := obox4 wr o
      have HG3 := Lib.hid (hgr.trans hg3)
      have HB3 := Lib.hid hb3
      have HRO := Lib.hid (HRU.out o.key)
      obtain ⟨r, hr⟩ : ∃ r, r = ruleR L o.key := ⟨_, rfl⟩
      rw [← hr] at HRO hdr
      have HDR := Lib.hid hdr
      clear hr hdr hof q4 hjL
      go_upto_region 10 with (fail)
      change Code.wp Tryz.prog _ _ _ (wr.alloc (.cells (tovs o) 52))
      rw [← hW3]
      clear hW3 hg3 hgr hb3 a0 a1 a2 a3
      obtain ⟨c0, c1, c2, c3⟩ := HB3.out.c4
      go_wp2_with fail
      refine (HRO.out _ HG3.out).mono ?_
      rintro e w4 ⟨rfl, g⟩
      go_upto_region 11 with (fail)
      obtain ⟨W5, hW5, hg5, hr5⟩ := rubox5 w4 r
      change Code.wp Tryz.prog _ _ _ (w4.alloc (.cells (ruv r) 49))
      rw [← hW5]
      have HG5 := Lib.hid ((HG3.out.trans g).trans hg5)
      have HB5 := Lib.hid ((HB3.out.gr g).gr hg5)
      clear hW5 hg5 g c0 c1 c2 c3
      obtain ⟨c0, c1, c2, c3⟩ := HB5.out.c4
      obtain ⟨r0, r1, r2, r3, r4⟩ := hr5
      by_cases hk0 : r.k = 0
      · have hk0b : (r.k == 0) = true := by rw [hk0]; rfl
        have HZ : Hid (formC L m ops = 140) := Lib.hid (by rw [HFC.out, ← HSC.out, HDR.out, if_pos hk0, if_pos (by decide)])
        clear hk0
        go_wp2_with fail
        go_ret
        exact ⟨by rw [HZ.out]; rfl, HG5.out⟩
      · have hk0b : (r.k == 0) = false := by simpa using hk0
        have HK0 := Lib.hid hk0
        have HFX := Lib.hid (HFT.out r.k o.kind W5)
        clear hk0
        rcases hft : fitsB r.k o.kind with _ | _
        · rw [hft] at HFX
          have HZ : Hid (formC L m ops = 100) := Lib.hid (by rw [HFC.out, ← HSC.out, HDR.out, if_neg HK0.out, if_pos hft, if_pos (by decide)])
          clear hft
          go_wp2_with fail
          refine HFX.out.mono ?_
          rintro e w6 ⟨rfl, g⟩
          have HG6 := Lib.hid (HG5.out.trans g)
          clear g
          go_wp2_with fail
          go_ret
          exact ⟨by rw [HZ.out]; rfl, HG6.out⟩
        · rw [hft] at HFX
          have HS2 : Hid (scanE L (ops.drop (j + 1)) = scanE L ops) := Lib.hid (by rw [← HSC.out, HDR.out, if_neg HK0.out, hft, if_neg (by decide)])
          clear hft
          go_wp2_with fail
          refine HFX.out.mono ?_
          rintro e w6 ⟨rfl, g⟩
          have HG6 := Lib.hid (HG5.out.trans g)
          clear g r0 r1 r2 r3 r4 c0 c1 c2 c3
          go_wp2_with fail
          go_roundw
          case rel => exact ⟨j + 1, by omega, by go_num, HG6.out, HS2⟩
          case measure => simp [intOf]; omega
    · have HS0 : Hid (scanE L ops = 0) := Lib.hid (by rw [← HSC.out, List.drop_eq_nil_of_le (by rw [← HN.out]; omega)]; rfl)
      have HFD : Hid (formC L m ops = if ops.all (paidB L m ops) = true then 0 else 141) := Lib.hid (by rw [HFC.out, HS0.out, if_neg (by decide)])
      have u1 : ¬ (j : Int) < (n : Int) := by omega
      have HGR := Lib.hid hgr
      clear hgr
      go_wp2_with fail
      go_loopw [13, 48] (fun s13 i wr => ∃ q : Nat, q ≤ n ∧ i = .int .i64 (q : Int) ∧ Gr w wr ∧ Hid (∀ x (hx : x < ops.length), x < q → paidB L m ops ops[x] = true)) (fun s13 i _ => n - (intOf i).toNat)
      case atStart => exact ⟨0, Nat.zero_le _, rfl, HGR.out, Lib.hid (fun _ _ h => absurd h (Nat.not_lt_zero _))⟩
      case round =>
        obtain ⟨q, hq, rfl, hgz, HAL⟩ := hrel
        by_cases hlq : q < n
        · have hqL : q < ops.length := by rw [← HN.out]; exact hlq
          obtain ⟨b, off, rfl, q4⟩ := HOC.out q hqL
          have HPQ := Lib.hid (HPA.out _ (List.getElem_mem hqL))
          obtain ⟨o, hof⟩ : ∃ o, o = ops[q] := ⟨_, rfl⟩
          rw [← hof] at q4 HPQ
          have HOF := Lib.hid hof
          obtain ⟨a0, a1, a2, a3⟩ := q4.gr hgz
          have v0 : (0 : Int) ≤ (q : Int) := by omega
          have v1 : (q : Int) < (n : Int) := by omega
          have v2 : wrap64 ((q : Int) + 1) = ((q + 1 : Nat) : Int) := by unfold wrap64; omega
          obtain ⟨W3, hW3, hg3, hb3⟩ := obox4 wr o
          have HG3 := Lib.hid (hgz.trans hg3)
          have HPX := Lib.hid (HPQ.out W3 HG3.out)
          unfold tovs at HPX
          clear hof q4
          go_upto_region 19 with (fail)
          change Code.wp Tryz.prog _ _ _ (wr.alloc (.cells (tovs o) 52))
          rw [← hW3]
          clear hW3 hg3 hgz a0 a1 a2 a3
          obtain ⟨c0, c1, c2, c3⟩ := hb3.c4
          rcases hpd : paidB L m ops o with _ | _
          · rw [hpd] at HPX
            have HZ : Hid (formC L m ops = 141) := Lib.hid (by
              rw [HFD.out, if_neg]
              rw [List.all_eq_true]
              intro h
              have := h _ (List.getElem_mem hqL)
              rw [← HOF.out, hpd] at this
              cases this)
            clear hpd
            go_wp2_with fail
            refine HPX.out.mono ?_
            rintro e w6 ⟨rfl, g⟩
            have HG6 := Lib.hid (HG3.out.trans g)
            clear g
            go_wp2_with fail
            go_ret
            exact ⟨by rw [HZ.out]; rfl, HG6.out⟩
          · rw [hpd] at HPX
            have HA2 : Hid (∀ x (hx : x < ops.length), x < q + 1 → paidB L m ops ops[x] = true) := Lib.hid (fun x hx hxq => by
              by_cases e : x = q
              · subst e; rw [← HOF.out]; exact hpd
              · exact HAL.out x hx (by omega))
            clear hpd
            go_wp2_with fail
            refine HPX.out.mono ?_
            rintro e w6 ⟨rfl, g⟩
            have HG6 := Lib.hid (HG3.out.trans g)
            clear g c0 c1 c2 c3
            go_wp2_with fail
            go_roundw
            case rel => exact ⟨q + 1, by omega, by go_num, HG6.out, HA2⟩
            case measure => simp [intOf]; omega
        · have HZ : Hid (formC L m ops = 0) := Lib.hid (by
            rw [HFD.out, if_pos]
            rw [List.all_eq_true]
            intro x hx
            obtain ⟨i, hi, rfl⟩ := List.mem_iff_getElem.1 hx
            exact HAL.out i hi (by rw [← HN.out] at hi; omega))
          have v1 : ¬ (q : Int) < (n : Int) := by omega
          go_wp2_with fail
          go_ret
          exact ⟨by rw [HZ.out]; rfl, hgz⟩
end Go.Proofs.YtnjmgknicffcbaaGreatDoor
