/- The law's own onlyOne: no value is chosen beside another one. -/
import Derived.Test.YtboonfbbnidmbaaVoN
namespace Go.Proofs.Ytboonfbbnidmbaa
open Go.RowKit Vo
set_option linter.unusedSimpArgs false
set_option linter.unusedVariables false

/-- One vote more, in the walk. -/
theorem wpList_push_vt {W : World} {ops : Array Oper} {rest : List Oper} {o : Oper} {a : Act} {Q : Exit → Act → World → Prop} (hgd : o.guard = none) (s x : Operand) (ho : o.op = .call { callee := .builtin .append, args := #[s, x], argTypes := #[39, 39] })
    (B : Nat) (v : Value) (L : List Vt) (hs : a.eval s = v) (hown : VO W B v L) (u : Vt) (bn : Nat) (hx : a.eval x = .slice (some ⟨bn, 0, none⟩) 1 1) (hc : W.heap[bn]? = some (.cells (vtA u.who u.bal u.at' u.val) 44 (0, 0))) (hlen : (L.length + 1) * 40 ≤ 140737488355328) (hB : B ≤ W.heap.size) (N : Nat) (hN : L.length + 1 = N)
    (h : ∀ A c w', VO w' B (.slice A N c) (L ++ [u]) → W.grownBy w' v.ownBlock → ((Value.slice A N c).ownBlock = v.ownBlock ∨ (Value.slice A N c).ownBlock = some W.heap.size) → wpList Try.prog ops Q rest (a.put o.dst (.slice A N c)) w') : wpList Try.prog ops Q (o :: rest) a W := by
  obtain ⟨i0, hi, hz0, hz1, hz2⟩ := info_parts infoVt
  have hone : VV W (.slice (some ⟨bn, 0, none⟩) 1 1) [u] := VV.of (L := [u]) (Nat.le_refl _) (by decide) (fun e => by cases e) (fun j hj => by
    have e : j = 0 := by simpa using hj
    subst e
    exact ⟨bn, 0, rfl, cell_of_obj hc rfl, cell_of_obj hc rfl, cell_of_obj hc rfl, cell_of_obj hc rfl⟩)
  refine wpList_append_sl W hgd s x 39 ho B 44 i0 _ 4 40 Try.underlying39 hi hz0 hz1 hz2 rfl (by decide) v L.length (vtcs L) hs hown (.slice (some ⟨bn, 0, none⟩) 1 1) 1 (vtcs [u]) hx hone (vtcs_one [u]) (by unfold maxLen; omega) hlen hB N hN ?_
  intro A' c' w' hown' hgr hf
  refine h A' c' w' ?_ hgr hf
  unfold VO
  rw [List.length_append, List.length_singleton, hN]
  unfold vtcs at hown' ⊢
  rw [List.flatMap_append]
  exact hown'
theorem likeV_snoc (v : Vt) (L : List Vt) (u : Vt) : likeV (L ++ [u]) v = likeV L v ++ (if decide (u.bal = v.bal) && decide (u.val = v.val) then [u] else []) := by
  unfold likeV
  rw [List.filter_append]
  cases h : (decide (u.bal = v.bal) && decide (u.val = v.val)) <;> simp [h]
theorem likeV_len (v : Vt) (L : List Vt) : (likeV L v).length ≤ L.length := List.length_filter_le _ _
theorem likeV_fit {v : Vt} {L : List Vt} (h : ∀ u ∈ L, FitVt u) : ∀ u ∈ likeV L v, FitVt u := fun u hu => h u (List.mem_filter.1 hu).1
set_option maxRecDepth 100000 in
set_option maxHeartbeats 4000000 in
theorem onlyOne_any (S : Nat → Bool) (v : Value) (L : List Vt) (w : World) (hv : VV w v L) (hL : ∀ v ∈ L, FitVt v) (hlen : (L.length + 1) * 40 ≤ 140737488355328) (hone : ∀ x, chosenO S L = some x → ∀ v ∈ L, v.val ≠ x → chosenO S (likeV L v) = none) :
    Calls Try.prog 16 #[.agg (setc S), v] w fun e w' => e = .returned (.bool true) ∧ Gr w w' := by
  obtain ⟨W, hW, hg, hX, _⟩ := box_set S w
  obtain ⟨A, c, rfl, h1, h2, h3⟩ := hv.form
  obtain ⟨n, hn⟩ : ∃ n, n = L.length := ⟨_, rfl⟩
  have HCH : Hid (∀ (v : Value) (w : World), VV w v L → Calls Try.prog 18 #[.agg (setc S), v] w fun e w' => e = .returned (pickV (chosenO S L)) ∧ Gr w w') := Lib.hid (fun v w hv => chosen_any S v L w hv hL (by omega))
  rw [← hn] at h1 hv ⊢
  have HVV := Lib.hid hv
  have HN := Lib.hid hn
  have HV := Lib.hid h3
  have HG := Lib.hid hg
  have HX := Lib.hid hX
  have HLEN := Lib.hid hlen
  have HFIT := Lib.hid hL
  have HONE := Lib.hid hone
  clear hX hg hv h3 hn hL hlen hone
  have HS0 : Hid (SetAt S w w.heap.size W) := Lib.hid ((setAt_of HX.out).from HG.out)
  rcases hco : chosenO S L with _ | x0
  · have HCO : Hid (pickV (chosenO S L) = .tuple #[.string ⟨#[]⟩, .bool false]) := Lib.hid (by rw [hco]; rfl)
    clear hco
    go_enter Try.func16, Try.ntmps16
    go_upto_region 1 with (fail)
    rw [← hW]
    clear hW
    obtain ⟨⟨c0, c1, c2, c3, c4, c5, c6, c7⟩, _⟩ := HS0.out
    go_wp2_with fail
    refine (HCH.out _ _ (HVV.out.gr HG.out)).mono ?_
    rintro e w2 ⟨rfl, g2⟩
    rw [HCO.out]
    have HG2 := Lib.hid (HG.out.trans g2)
    clear g2
    go_wp2_with fail
    go_ret
    exact ⟨rfl, HG2.out⟩
  · have HPV : Hid (pickV (chosenO S L) = .tuple #[.string x0, .bool true]) := Lib.hid (by rw [hco]; rfl)
    have HCO := Lib.hid hco
    clear hco
    go_enter Try.func16, Try.ntmps16
    go_upto_region 1 with (fail)
    rw [← hW]
    clear hW
    obtain ⟨⟨c0, c1, c2, c3, c4, c5, c6, c7⟩, _⟩ := HS0.out
    go_wp2_with fail
    refine (HCH.out _ _ (HVV.out.gr HG.out)).mono ?_
    rintro e w2 ⟨rfl, g2⟩
    rw [HPV.out]
    have HS3 := Lib.hid (keepS HS0.out g2)
    clear g2 c0 c1 c2 c3 c4 c5 c6 c7
    go_wp2_with fail
    go_loopw [7, 8, 9, 10, 11] (fun i _ _ _ _ wr => ∃ k : Nat, k ≤ n ∧ i = .int .i64 (k : Int) ∧ SetAt S w w.heap.size wr) (fun i _ _ _ _ _ => n - (intOf i).toNat)
    case atStart => exact ⟨0, Nat.zero_le _, rfl, HS3.out⟩
    case round =>
      clear HS3
      obtain ⟨k, hk, rfl, hst⟩ := hrel
      have HSO := Lib.hid hst
      clear hst
      obtain ⟨wo, rfl⟩ : ∃ wo : World, wo = wr := ⟨_, rfl⟩
      by_cases hlt : k < n
      · have hkL : k < L.length := by rw [← HN.out]; exact hlt
        obtain ⟨bv, off, rfl, hm⟩ := HV.out k hkL
        obtain ⟨vk, hvk⟩ : ∃ z, z = L[k] := ⟨_, rfl⟩
        have HMEM : Hid (vk ∈ L) := Lib.hid (by rw [hvk]; exact List.getElem_mem hkL)
        rw [← hvk] at hm
        have HMK := Lib.hid (hm.gr HSO.out.2)
        clear hm hvk hkL
        obtain ⟨wk, yk, zk, xk⟩ := vk
        have hk0 : (0 : Int) ≤ (k : Int) := Int.natCast_nonneg _
        obtain ⟨p0, p1, p2, p3⟩ := HMK.out
        by_cases hx : x0 = xk
        case pos =>
          subst hx
          go_wp2_with fail
          go_roundw
          case measure => simp [intOf]; omega
          case rel => exact ⟨k + 1, hlt, by go_num, HSO.out⟩
        case neg =>
          have t1 := str_ne (fun e => hx e.symm : xk ≠ x0)
          have HNONE : Hid (chosenO S (likeV L ⟨wk, yk, zk, xk⟩) = none) := Lib.hid (HONE.out x0 HCO.out ⟨wk, yk, zk, xk⟩ HMEM.out (fun e => hx e.symm))
          clear hx
          go_wp2_with fail
          clear t1 p0 p1 p2 p3
          go_loopw [8, 9] (fun fr i wx => ∃ (j m : Nat) (Af : Option Addr) (cf : Nat), j ≤ n ∧ i = .int .i64 (j : Int) ∧ fr = .slice Af m cf ∧ m ≤ j ∧ Hid (m = (likeV (L.take j) ⟨wk, yk, zk, xk⟩).length) ∧ Hid (VO wx wo.heap.size (.slice Af m cf) (likeV (L.take j) ⟨wk, yk, zk, xk⟩)) ∧ Gr wo wx) (fun _ i _ => n - (intOf i).toNat)
          case atStart => exact ⟨0, 0, none, 0, Nat.zero_le _, rfl, rfl, Nat.le_refl _, Lib.hid rfl, Lib.hid (VO.nil _ _), Gr.refl _⟩
          case round =>
            obtain ⟨j, m, Af, cf, hj, rfl, rfl, hmj, HM, HNO, hgx⟩ := hrel
            have HGX := Lib.hid hgx
            clear hgx
            by_cases hjlt : j < n
            · have hjL : j < L.length := by rw [← HN.out]; exact hjlt
              obtain ⟨bv', off', e', hm⟩ := HV.out j hjL
              injection e' with e'
              injection e' with e1 e2
              subst e1 e2
              obtain ⟨vj, hvj⟩ : ∃ z, z = L[j] := ⟨_, rfl⟩
              have HT : Hid (L.take (j + 1) = L.take j ++ [vj]) := Lib.hid (by rw [take_next L hjL, hvj])
              rw [← hvj] at hm
              clear hvj hjL
              obtain ⟨wj, yj, zj, xj⟩ := vj
              obtain ⟨q0, q1, q2, q3⟩ := (hm.gr HSO.out.2).gr HGX.out
              obtain ⟨p0, p1, p2, p3⟩ := HMK.out.gr HGX.out
              have hj0 : (0 : Int) ≤ (j : Int) := Int.natCast_nonneg _
              clear hm
              go_upto_region 12 with (fail)
              by_cases hy : yk = yj
              case neg =>
                have t1 : ((yj : Int) == (yk : Int)) = false := by simp; omega
                have HNX : Hid (likeV (L.take (j + 1)) ⟨wk, yk, zk, xk⟩ = likeV (L.take j) ⟨wk, yk, zk, xk⟩) := Lib.hid (by
                  rw [HT.out, likeV_snoc, decide_eq_false (fun e => hy e.symm : ¬ yj = yk)]
                  simp)
                clear hy
                refine qRegion (fun w' => ((w'.cell? ⟨bv, off + j * 4, none⟩ = some (.int .i64 wj) ∧ w'.cell? ⟨bv, off + j * 4 + 1, none⟩ = some (.int .u64 (yj : Int)) ∧ w'.cell? ⟨bv, off + j * 4 + 2, none⟩ = some (.int .u64 (zj : Int)) ∧ w'.cell? ⟨bv, off + j * 4 + 3, none⟩ = some (.string xj)) ∧ (w'.cell? ⟨bv, off + k * 4, none⟩ = some (.int .i64 wk) ∧ w'.cell? ⟨bv, off + k * 4 + 1, none⟩ = some (.int .u64 (yk : Int)) ∧ w'.cell? ⟨bv, off + k * 4 + 2, none⟩ = some (.int .u64 (zk : Int)) ∧ w'.cell? ⟨bv, off + k * 4 + 3, none⟩ = some (.string xk))) ∧ Gr wr w') (by kernel_rfl) (by kernel_rfl) ⟨⟨⟨(Gr.refl _).drew.cell q0, (Gr.refl _).drew.cell q1, (Gr.refl _).drew.cell q2, (Gr.refl _).drew.cell q3⟩, ⟨(Gr.refl _).drew.cell p0, (Gr.refl _).drew.cell p1, (Gr.refl _).drew.cell p2, (Gr.refl _).drew.cell p3⟩⟩, (Gr.refl _).drew⟩ ?_
                iterate 12
                  refine qTake (by kernel_rfl) ?_
                  apply Exists.intro
                  refine ⟨fun wq hq => ?_, ?_⟩
                  · go_light
                    obtain ⟨⟨⟨a0, a1, a2, a3⟩, ⟨b0, b1, b2, b3⟩⟩, _⟩ := hq
                    go_simp
                    try with_reducible rfl
                    done
                  try simp only [Act.put, List.setIfInBounds_toArray, List.set_cons_zero, List.set_cons_succ]
                iterate 11
                  refine qSkip (by kernel_rfl) ?_
                  try simp only [Act.put, List.setIfInBounds_toArray, List.set_cons_zero, List.set_cons_succ]
                iterate 1
                  refine qTake (by kernel_rfl) ?_
                  apply Exists.intro
                  refine ⟨fun wq hq => ?_, ?_⟩
                  · go_light
                    obtain ⟨⟨⟨a0, a1, a2, a3⟩, ⟨b0, b1, b2, b3⟩⟩, _⟩ := hq
                    go_simp
                    try with_reducible rfl
                    done
                  try simp only [Act.put, List.setIfInBounds_toArray, List.set_cons_zero, List.set_cons_succ]
                refine qNil ?_
                intro w5 hC5
                have HG5 := Lib.hid (HGX.out.trans hC5.2)
                have HNO5 := Lib.hid (HNO.out.gr hC5.2)
                clear hC5 q0 q1 q2 q3 p0 p1 p2 p3
                rw [← HNX.out] at HM HNO5
                go_wp2_with fail
                go_roundw
                case measure => simp [intOf]; omega
                case rel => exact ⟨j + 1, m, Af, cf, hjlt, by go_num, rfl, by omega, HM, HNO5, HG5.out⟩
              case pos =>
                subst hy
                by_cases hx : xk = xj
                case neg =>
                  have t1 := str_ne (fun e => hx e.symm : xj ≠ xk)
                  have HNX : Hid (likeV (L.take (j + 1)) ⟨wk, yk, zk, xk⟩ = likeV (L.take j) ⟨wk, yk, zk, xk⟩) := Lib.hid (by
                    rw [HT.out, likeV_snoc, decide_eq_false (fun e => hx e.symm : ¬ xj = xk), Bool.and_false]
                    simp)
                  clear hx
                  refine qRegion (fun w' => ((w'.cell? ⟨bv, off + j * 4, none⟩ = some (.int .i64 wj) ∧ w'.cell? ⟨bv, off + j * 4 + 1, none⟩ = some (.int .u64 (yk : Int)) ∧ w'.cell? ⟨bv, off + j * 4 + 2, none⟩ = some (.int .u64 (zj : Int)) ∧ w'.cell? ⟨bv, off + j * 4 + 3, none⟩ = some (.string xj)) ∧ (w'.cell? ⟨bv, off + k * 4, none⟩ = some (.int .i64 wk) ∧ w'.cell? ⟨bv, off + k * 4 + 1, none⟩ = some (.int .u64 (yk : Int)) ∧ w'.cell? ⟨bv, off + k * 4 + 2, none⟩ = some (.int .u64 (zk : Int)) ∧ w'.cell? ⟨bv, off + k * 4 + 3, none⟩ = some (.string xk))) ∧ Gr wr w') (by kernel_rfl) (by kernel_rfl) ⟨⟨⟨(Gr.refl _).drew.cell q0, (Gr.refl _).drew.cell q1, (Gr.refl _).drew.cell q2, (Gr.refl _).drew.cell q3⟩, ⟨(Gr.refl _).drew.cell p0, (Gr.refl _).drew.cell p1, (Gr.refl _).drew.cell p2, (Gr.refl _).drew.cell p3⟩⟩, (Gr.refl _).drew⟩ ?_
                  iterate 24
                    refine qTake (by kernel_rfl) ?_
                    apply Exists.intro
                    refine ⟨fun wq hq => ?_, ?_⟩
                    · go_light
                      obtain ⟨⟨⟨a0, a1, a2, a3⟩, ⟨b0, b1, b2, b3⟩⟩, _⟩ := hq
                      go_simp
                      try with_reducible rfl
                      done
                    try simp only [Act.put, List.setIfInBounds_toArray, List.set_cons_zero, List.set_cons_succ]
                  refine qNil ?_
                  intro w5 hC5
                  have HG5 := Lib.hid (HGX.out.trans hC5.2)
                  have HNO5 := Lib.hid (HNO.out.gr hC5.2)
                  clear hC5 q0 q1 q2 q3 p0 p1 p2 p3
                  rw [← HNX.out] at HM HNO5
                  go_wp2_with fail
                  go_roundw
                  case measure => simp [intOf]; omega
                  case rel => exact ⟨j + 1, m, Af, cf, hjlt, by go_num, rfl, by omega, HM, HNO5, HG5.out⟩
                case pos =>
                  subst hx
                  have HNX : Hid (likeV (L.take (j + 1)) ⟨wk, yk, zk, xk⟩ = likeV (L.take j) ⟨wk, yk, zk, xk⟩ ++ [⟨wj, yk, zj, xk⟩]) := Lib.hid (by
                    rw [HT.out, likeV_snoc]
                    simp)
                  refine qRegion (fun w' => ((w'.cell? ⟨bv, off + j * 4, none⟩ = some (.int .i64 wj) ∧ w'.cell? ⟨bv, off + j * 4 + 1, none⟩ = some (.int .u64 (yk : Int)) ∧ w'.cell? ⟨bv, off + j * 4 + 2, none⟩ = some (.int .u64 (zj : Int)) ∧ w'.cell? ⟨bv, off + j * 4 + 3, none⟩ = some (.string xk)) ∧ (w'.cell? ⟨bv, off + k * 4, none⟩ = some (.int .i64 wk) ∧ w'.cell? ⟨bv, off + k * 4 + 1, none⟩ = some (.int .u64 (yk : Int)) ∧ w'.cell? ⟨bv, off + k * 4 + 2, none⟩ = some (.int .u64 (zk : Int)) ∧ w'.cell? ⟨bv, off + k * 4 + 3, none⟩ = some (.string xk))) ∧ Gr wr w') (by kernel_rfl) (by kernel_rfl) ⟨⟨⟨(Gr.refl _).drew.cell q0, (Gr.refl _).drew.cell q1, (Gr.refl _).drew.cell q2, (Gr.refl _).drew.cell q3⟩, ⟨(Gr.refl _).drew.cell p0, (Gr.refl _).drew.cell p1, (Gr.refl _).drew.cell p2, (Gr.refl _).drew.cell p3⟩⟩, (Gr.refl _).drew⟩ ?_
                  iterate 24
                    refine qTake (by kernel_rfl) ?_
                    apply Exists.intro
                    refine ⟨fun wq hq => ?_, ?_⟩
                    · go_light
                      obtain ⟨⟨⟨a0, a1, a2, a3⟩, ⟨b0, b1, b2, b3⟩⟩, _⟩ := hq
                      go_simp
                      try with_reducible rfl
                      done
                    try simp only [Act.put, List.setIfInBounds_toArray, List.set_cons_zero, List.set_cons_succ]
                  refine qNil ?_
                  intro w5 hC5
                  have HG5 := Lib.hid (HGX.out.trans hC5.2)
                  have hb : Gr w5 (w5.alloc (.cells (vtA wj yk zj xk) 44)) := (Gr.refl w5).alloc _
                  have HNO5 := Lib.hid (HNO.out.gr (hC5.2.trans hb))
                  have HGA := Lib.hid (HG5.out.trans hb)
                  have HCE : Hid ((w5.alloc (.cells (vtA wj yk zj xk) 44)).heap[w5.heap.size]? = some (.cells (vtA wj yk zj xk) 44 (0, 0))) := Lib.hid (MapKept.heap_alloc w5 _).1
                  have HLE : Hid (((likeV (L.take j) ⟨wk, yk, zk, xk⟩).length + 1) * 40 ≤ 140737488355328) := Lib.hid (by
                    have h1 := likeV_len ⟨wk, yk, zk, xk⟩ (L.take j)
                    have h2 : (L.take j).length ≤ L.length := by rw [List.length_take]; exact Nat.min_le_right _ _
                    have h3 := HLEN.out
                    omega)
                  obtain ⟨q0, q1, q2, q3⟩ := hC5.1.1
                  clear hC5 hb p0 p1 p2 p3
                  go_wp2_with (at_builtin; refine wpList_push_vt rfl (.tmp 63) (.tmp 68) rfl wo.heap.size (.slice Af m cf) (likeV (L.take j) ⟨wk, yk, zk, xk⟩) rfl HNO5.out ⟨wj, yk, zj, xk⟩ w5.heap.size rfl HCE.out HLE.out HGA.out.size (m + 1) (by rw [HM.out]) ?_)
                  intro Af2 cf2 w6 hno6 hgr6 _
                  have HNO6 := Lib.hid hno6
                  have HG6 := Lib.hid (gr_grown HGA.out HNO5.out (Nat.le_refl _) hgr6)
                  have HM6 : Hid (m + 1 = (likeV (L.take (j + 1)) ⟨wk, yk, zk, xk⟩).length) := Lib.hid (by rw [HNX.out, List.length_append, ← HM.out]; rfl)
                  rw [← HNX.out] at HNO6
                  clear hno6 hgr6 q0 q1 q2 q3
                  go_wp2_with fail
                  go_roundw
                  case measure => simp [intOf]; omega
                  case rel => exact ⟨j + 1, m + 1, Af2, cf2, hjlt, by go_num, rfl, by omega, HM6, HNO6, HG6.out⟩
            · obtain rfl : j = n := by omega
              have HL : Hid (likeV (L.take j) ⟨wk, yk, zk, xk⟩ = likeV L ⟨wk, yk, zk, xk⟩) := Lib.hid (by rw [List.take_of_length_le (by rw [← HN.out]; exact Nat.le_refl _)])
              have HS6 := Lib.hid (keepS HSO.out HGX.out)
              have HNV : Hid (VV wr (.slice Af m cf) (likeV L ⟨wk, yk, zk, xk⟩)) := Lib.hid (by rw [← HL.out]; exact HNO.out.vv)
              have HC6 : Hid (∀ W, VV W (.slice Af m cf) (likeV L ⟨wk, yk, zk, xk⟩) → Calls Try.prog 18 #[.agg (setc S), .slice Af m cf] W fun e w' => e = .returned (.tuple #[.string ⟨#[]⟩, .bool false]) ∧ Gr W w') := Lib.hid (fun W hW => by
                have h := chosen_any S (.slice Af m cf) (likeV L ⟨wk, yk, zk, xk⟩) W hW (likeV_fit HFIT.out) (by have h1 := likeV_len ⟨wk, yk, zk, xk⟩ L; have h2 := HLEN.out; omega)
                rw [HNONE.out] at h
                exact h)
              clear HNO HM
              obtain ⟨⟨c0, c1, c2, c3, c4, c5, c6, c7⟩, _⟩ := HS6.out
              go_wp2_with fail
              refine (HC6.out _ HNV.out).mono ?_
              rintro e w8 ⟨rfl, g8⟩
              have HS8 := Lib.hid (keepS HS6.out g8)
              clear g8 c0 c1 c2 c3 c4 c5 c6 c7
              go_wp2_with fail
              go_roundw
              case measure => simp [intOf]; omega
              case rel => exact ⟨k + 1, hlt, by go_num, HS8.out⟩
      · obtain rfl : k = n := by omega
        go_wp2_with fail
        go_ret
        exact ⟨rfl, HSO.out.2⟩
end Go.Proofs.Ytboonfbbnidmbaa
