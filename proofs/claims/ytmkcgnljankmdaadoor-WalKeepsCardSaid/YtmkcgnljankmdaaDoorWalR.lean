/- The law WalOne: with no crash the record that was appended is the last one. -/
import Derived.Test.YtmkcgnljankmdaaDoorWalQ
import Derived.BigFrame
namespace Go.Proofs.YtmkcgnljankmdaaDoor
open Go.RowKit

theorem plan_ops (L : List F) (p record : ByteArray) (hp : p.size ≤ 1000) (hr : record.size ≤ 65536) : ∀ o ∈ (appendPlan L p record).1, FitO o ∧ ∃ i, o.name = nameW p i := by
  have hz := frameB_size record
  have hw : ∀ i, FitO (writeO p i (frameB record)) := fun i => fitO_write hp i (by omega)
  intro o ho
  unfold appendPlan at ho
  rw [if_neg (by omega)] at ho
  split at ho
  · rw [List.mem_singleton.1 ho]
    exact ⟨hw _, _, rfl⟩
  · split at ho
    · rw [List.mem_singleton.1 ho]
      exact ⟨hw _, _, rfl⟩
    · split at ho
      · cases ho
      · rcases List.mem_cons.1 ho with h | h
        · rw [h]
          exact ⟨fitO_sync hp _, _, rfl⟩
        · rw [List.mem_singleton.1 h]
          exact ⟨hw _, _, rfl⟩
theorem sv_one (w : World) (s : ByteArray) : SV (w.alloc (.cells #[.string s] 9)) (.slice (some ⟨w.heap.size, 0, none⟩) 1 1) [s] := by
  refine ⟨_, 1, rfl, Nat.le_refl _, ⟨by unfold maxLen; omega, fun h => by cases h⟩, fun j hj => ⟨w.heap.size, 0, rfl, ?_⟩⟩
  obtain rfl : j = 0 := by simpa using hj
  simp
/-- append of strings to a row of the call's own, where the operation's guard says yes. -/
theorem wpList_push_strs_g {W w0 : World} {ops : Array Oper} {rest : List Oper} {o : Oper} {a : Act} {Q : Exit → Act → World → Prop} (hw : Region.wanted o (yielded ops a.tmps) = true) (s x : Operand)
    (ho : o.op = .call { callee := .builtin .append, args := #[s, x], argTypes := #[27, 27] })
    (v vx : Value) (L M : List ByteArray) (hs : a.eval s = v) (hown : SO W w0.heap.size v L) (hx : a.eval x = vx) (hxv : SV W vx M) (hlen : (L.length + M.length) * 16 ≤ 140737488355328) (hg : Gr w0 W)
    (h : ∀ A' c' w', SO w' w0.heap.size (.slice A' (L.length + M.length) c') (L ++ M) → Gr w0 w' → W.grownBy w' v.ownBlock → wpList Tryd.prog ops Q rest (a.put o.dst (.slice A' (L.length + M.length) c')) w') :
    wpList Tryd.prog ops Q (o :: rest) a W := by
  obtain ⟨i0, hi, hz0, hz1, hz2⟩ := info_parts infoString
  have hsz := hg.size
  refine Go.BigFrame.wpList_want hw (fun K hK => ?_)
  refine wp_append_sl W s x 27 ho w0.heap.size 9 i0 _ 1 16 Tryd.underlying27 hi hz0 hz1 hz2 rfl (by decide) v L.length (L.map Value.string) hs hown vx M.length (M.map Value.string) hx
    hxv.sl (strs_one M) (by unfold maxLen; omega) hlen hsz (L.length + M.length) rfl ?_
  intro A' c' w' hown' hgr _
  refine hK _ _ (h A' c' w' ?_ (gr_of_grown hg hown hgr hsz) hgr)
  unfold SO
  rw [List.length_append, List.map_append]
  exact hown'
theorem so_apart {W W' w3 : World} {B B1 : Nat} {v v1 : Value} {L L1 : List ByteArray} (hs : SO W B v L) (h1 : SO w3 B1 v1 L1) (hlt : w3.heap.size ≤ B) (hg : W.grownBy W' v1.ownBlock) : SO W' B v L := by
  refine World.ownsRow.kept hs hg ?_
  cases h : v.ownBlock with
  | none => exact .inl rfl
  | some b => exact .inr (fun e => by have a := (World.ownsRow.lt hs b h).1; have c := (World.ownsRow.lt h1 b e.symm).2; omega)
theorem open_count {p : ByteArray} {m : Nat} : ∀ (r : List F) (i : Nat), (∀ f ∈ r, f.size ≤ 1048576) → (openS p m i r).1.length ≤ r.length * 131072
  | [], _, _ => Nat.le_refl _
  | f :: r, i, h => by
    have h1 := recs_few (h f List.mem_cons_self)
    rw [List.length_cons, Nat.succ_mul]
    by_cases ht : tornF f
    · rw [openS_torn ht]
      show (recsF f).length ≤ _
      omega
    · rw [openS_whole ht]
      show (recsF f ++ _).length ≤ _
      have := open_count (p := p) (m := m) r (i + 1) (fun g hg => h g (List.mem_cons_of_mem _ hg))
      rw [List.length_append]
      omega

set_option maxRecDepth 100000 in
set_option maxHeartbeats 8000000 in
theorem wone_walk (v : Value) (L : List F) (rec : ByteArray) (w : World) (hv : FV w v L) (hrs : rec.size ≤ 9223372036854775807) (hf : Fit L) (hsz : ∀ f ∈ L, f.size ≤ 1048576) (hlen : L.length * 48 ≤ 140737488355328) (hH : Halves w) :
    Calls Tryd.prog 6 #[.agg #[v], .string rec] w fun e w' => e = .returned (.bool true) ∧ Gr w w' := by
  have HA := Lib.hid (fun w1 (g : Gr w w1) => wawake_any w1 (hH.gr g))
  have HH := Lib.hid hH
  have HV := Lib.hid hv
  have HFit := Lib.hid hf
  have HSZ := Lib.hid hsz
  obtain ⟨A, c, rfl, l1, ⟨l2, _⟩, l3⟩ := hv
  have HC := Lib.hid l3
  have hc63 : c ≤ 9223372036854775807 := l2
  obtain ⟨n, hn⟩ : ∃ n, n = L.length := ⟨_, rfl⟩
  have HN := Lib.hid hn
  rw [← hn] at l1 HV hlen ⊢
  have HG := Lib.hid (gr_box w (.cells #[.slice A n c] 24))
  clear hH hf hsz l2 l3 hn
  go_enter Tryd.func6, Tryd.ntmps6
  go_wp2_with fail
  refine (HA.out _ HG.out).mono ?_
  rintro e w1 ⟨rfl, g1⟩
  have HG1 := Lib.hid (HG.out.trans g1)
  have hb1 : w1.cell? ⟨w.heap.size, 0, none⟩ = some (.slice A n c) := g1.cell (by simp)
  have HB1 := Lib.hid hb1
  clear g1 hb1
  go_wp2_with fail
  go_loopw [5] (fun i wr => DNRel L n w1 i wr) (fun i _ => n - (intOf i).toNat)
  case atStart => exact ⟨0, rfl, Nat.zero_le _, fun x _ h => absurd h (Nat.not_lt_zero _), Gr.refl _⟩
  case round =>
    obtain ⟨a, rfl, ha, hu, hgr⟩ := hrel
    have HU := Lib.hid hu
    have HGR := Lib.hid hgr
    have hbx := hgr.cell HB1.out
    clear hu hgr
    by_cases hlt : a < n
    · go_wp2_with fail
      clear hbx
      go_loopw [6] (fun i wr => DMRel L a w1 i wr) (fun i _ => a - (intOf i).toNat)
      case atStart => exact ⟨0, rfl, Nat.zero_le _, fun _ y _ h => absurd h (Nat.not_lt_zero _), HGR.out⟩
      case round =>
        obtain ⟨b, rfl, hb, hne, hgr2⟩ := hrel
        have HNE := Lib.hid hne
        have HGR2 := Lib.hid hgr2
        clear hne
        by_cases hlt2 : b < a
        · have haL : a < L.length := by rw [← HN.out]; exact hlt
          have hbL : b < L.length := by omega
          obtain ⟨bk, off, rfl, q0, -, -⟩ := HC.out a haL
          obtain ⟨bk', off', hbk, r0, -, -⟩ := HC.out b hbL
          injection hbk with hbk
          injection hbk with e1 e2
          subst e1 e2
          have c0 := (HG1.out.trans hgr2).cell q0
          have c1 := (HG1.out.trans hgr2).cell r0
          have hbx := hgr2.cell HB1.out
          obtain ⟨x, hx⟩ : ∃ x, x = L[a].name := ⟨_, rfl⟩
          obtain ⟨y, hy⟩ : ∃ y, y = L[b].name := ⟨_, rfl⟩
          rw [← hx] at c0
          rw [← hy] at c1
          have hbn : b < n := by omega
          rcases hq : eqS x y with _ | _
          · have ht : (x.toList == y.toList) = false := hq
            have H2 : Hid (∀ (ha : a < L.length) z (hz : z < L.length), z < b + 1 → L[a].name ≠ L[z].name) := Lib.hid (fun ha z hz hzb => by
              by_cases e : z = b
              · subst e
                rw [← hx, ← hy]
                intro e2
                rw [e2, eqS_self] at hq
                cases hq
              · exact HNE.out ha z hz (by omega))
            clear q0 r0 hgr2 hx hy hq haL hbL
            go_wp2_with fail
            go_quiet (fail)
            go_wp2
            go_roundw
            case rel => exact ⟨b + 1, by go_num, by omega, H2.out, HGR2.out.drewN _⟩
            case measure => simp [intOf]; omega
          · have ht : (x.toList == y.toList) = true := hq
            clear q0 r0 hgr2 hx hy hq haL hbL
            go_wp2_with fail
            go_quiet (fail)
            go_wp2
            go_ret
            exact ⟨rfl, HG1.out.trans (HGR2.out.drewN _)⟩
        · have H2 := Lib.hid (uniq_step HU.out hlt2 HNE.out)
          clear hgr2
          go_wp2
          go_roundw
          case rel => exact ⟨a + 1, by go_num, by omega, H2.out, HGR2.out⟩
          case measure => simp [intOf]; omega
    · have hd : Dist L := Uniq.all (by have := HU.out; rw [show a = L.length by rw [← HN.out]; omega] at this; exact this)
      have HD := Lib.hid hd
      have HGW := Lib.hid (HG1.out.trans HGR.out)
      have HBX := Lib.hid hbx
      clear hd
      have H0 := Lib.hid (fun w1 (g : Gr w w1) => strays_any (.slice A n c) L w1 (HV.out.gr g) HFit.out)
      rcases hst : strayB L with _ | _
      · have hns := stray_none hst
        rw [hst] at H0
        have hlen2 : L.length * 48 ≤ 140737488355328 := by rw [← HN.out]; exact hlen
        obtain ⟨L1, X, hr, hm⟩ := mend (L := L) prefix_w HD.out
        have hsm0 : ∀ f ∈ segL L wBB, f.size ≤ 1048576 := fun f hf => HSZ.out f (segL_mem hf)
        have H1 := Lib.hid (fun w1 (g : Gr w w1) => open_yes (.slice A n c) L wBB w1 (HV.out.gr g) prefix_w HFit.out hsm0 hlen2 (HH.out.gr g))
        have hfit1 : Fit L1 := by have := run_fit (ops := (openW L wBB).2) HFit.out; rw [show openW L wBB = openW L wB from rfl, hr] at this; exact this
        have hsz1 : ∀ f ∈ L1, f.size ≤ 1048576 := hm.size _ HSZ.out
        have hlen1 : L1.length * 48 ≤ 140737488355328 := by have := hm.len; omega
        have hfo := fitO_open (L := L) (p := wBB) (by decide) hsm0
        have hgap1 : ∀ j, X.length < j → segO L1 wBB j = none := fun j hj => hm.stray hns j (by rw [hm.log.segs.2]; exact hj)
        have hlog1 : IsLog L1 wBB X := hm.log
        have hwh1 := hm.whole
        have hrec1 : X.flatMap recsF = (openW L wBB).1 := hm.recs
        have hrl0 : (openW L wBB).1.length ≤ 1000000 * 131072 := by
          have h1 := open_count (p := wBB) (m := (segL L wBB).length) (segL L wBB) 0 hsm0
          have h2 := (isLog L wBB).few.1
          have h3 : (segL L wBB).length * 131072 ≤ 1000000 * 131072 := Nat.mul_le_mul_right _ h2
          exact Nat.le_trans h1 h3
        obtain ⟨R, hR⟩ : ∃ R, R = (openW L wBB).1 := ⟨_, rfl⟩
        obtain ⟨P, hP⟩ : ∃ P, P = (openW L wBB).2 := ⟨_, rfl⟩
        have hr : run L P = (L1, P.length, 0) := by rw [hP]; exact hr
        rw [← hR] at hrec1 H1 hrl0
        have HRL : Hid ((R.map bs).length ≤ 1000000 * 131072) := Lib.hid (by rw [List.length_map]; exact hrl0)
        clear hrl0
        rw [← hP] at H1 hfo
        have H2 := Lib.hid (fun vo w1 (g : Gr w w1) (ho : OV w1 vo P) => rdo_at (.slice A n c) vo L P w1 (HV.out.gr g) ho HFit.out hfo hlen2 L1 P.length 0 hr)
        have HX := Lib.hid (show IsLog L1 wBB X ∧ (∀ j, X.length < j → segO L1 wBB j = none) ∧ (∀ f ∈ X, ¬ tornF f) ∧ X.flatMap recsF = R ∧ Fit L1 ∧ (∀ f ∈ L1, f.size ≤ 1048576) ∧ L1.length * 48 ≤ 140737488355328 from ⟨hlog1, hgap1, hwh1, hrec1, hfit1, hsz1, hlen1⟩)
        clear hr hm hsm0 hfit1 hsz1 hlen1 hfo hgap1 hlog1 hwh1 hrec1 hR hP hst hns
        go_wp2_with fail
        refine (H0.out _ HGW.out).mono ?_
        rintro e w2 ⟨rfl, g2⟩
        have HG2 := Lib.hid (HGW.out.trans g2)
        have HBX2 := Lib.hid (g2.cell HBX.out)
        have hbx2 := HBX2.out
        clear g2 hbx H0
        go_wp2_with fail
        refine (H1.out _ HG2.out).mono ?_
        rintro e w3 ⟨v1, v2, rfl, hs1, hown, g3⟩
        obtain ⟨A2, c2, hv2, -, -⟩ := hown.form
        obtain ⟨m, hm⟩ : ∃ m, m = P.length := ⟨_, rfl⟩
        rw [← hm] at hv2 H2
        subst hv2
        have HS1 := Lib.hid hs1
        have HO2 := Lib.hid hown.ov
        have HG3 := Lib.hid (HG2.out.trans g3)
        have HG23 := Lib.hid g3
        have hbx3 := g3.cell HBX2.out
        clear hown g3 hm hbx2 hs1
        go_wp2_with fail
        refine (H2.out _ _ HG3.out HO2.out).mono ?_
        rintro e w4 ⟨v3, rfl, hown3, g4⟩
        obtain ⟨A3, c3, hv3, -, -⟩ := hown3.form
        obtain ⟨m3, hm3⟩ : ∃ m, m = L1.length := ⟨_, rfl⟩
        rw [← hm3] at hv3
        subst hv3
        have HO3 := Lib.hid hown3.fv
        have HG4 := Lib.hid (HG3.out.trans g4)
        have HGB := Lib.hid (gr_box w4 (.cells #[.slice A3 m3 c3] 24))
        have HG24 := Lib.hid ((HG23.out.trans g4).trans HGB.out)
        have HG34 := Lib.hid (Gr.trans g4 HGB.out)
        have HSA := Lib.hid (SO.gr (SO.gr HS1.out g4) HGB.out)
        have HGB4 := Lib.hid (HG4.out.trans HGB.out)
        have HFV4 := Lib.hid (HO3.out.gr HGB.out)
        have HBB : Hid (World.cell? (w4.alloc (.cells #[.slice A3 m3 c3] 24)) ⟨w4.heap.size, 0, none⟩ = some (.slice A3 m3 c3)) := Lib.hid (by simp)
        clear hown3 g4 hm3 hbx3
        by_cases hrl : 65536 < rec.size
        · have H3 := Lib.hid (fun w => append_long (.slice A3 m3 c3) wBB rec w prefix_w hrl ⟨_, _, _, rfl⟩)
          go_wp2_with fail
          refine (H3.out _).mono ?_
          rintro e w5 ⟨v5, rfl, hown5, g5⟩
          obtain ⟨A5, c5, hv5, -, -⟩ := hown5.form
          subst hv5
          have HG5 := Lib.hid (HGB4.out.trans g5)
          clear hown5 g5
          go_wp2_with fail
          go_ret
          exact ⟨rfl, HG5.out⟩
        obtain ⟨xlog, xgap, xwh, xrec, xfit, xsz, xlen⟩ := HX.out
        have H3 := Lib.hid (fun w1 (g : Gr w w1) (hu : FV w1 (.slice A3 m3 c3) L1) => append_yes (.slice A3 m3 c3) L1 wBB rec w1 hu prefix_w (by omega) xfit xlen (HH.out.gr g))
        have hgrow := grow (record := rec) (show prefixB wBB = true from prefix_w) xlog xgap (by omega)
        have hpo := plan_ops L1 wBB rec (by decide) (by omega)
        obtain ⟨P2, hP2⟩ : ∃ P, P = (appendPlan L1 wBB rec).1 := ⟨_, rfl⟩
        obtain ⟨k2, hk2⟩ : ∃ k, k = (appendPlan L1 wBB rec).2 := ⟨_, rfl⟩
        rw [← hP2, ← hk2] at H3 hgrow
        rw [← hP2] at hpo
        have H3 : Hid (∀ w1, Gr w w1 → FV w1 (.slice A3 m3 c3) L1 → Calls Tryd.prog 17 #[.agg #[.slice A3 m3 c3], .string wBB, .string rec] w1 fun e w' => RetPlan P2 k2 w1 e w') := H3
        have HPO := Lib.hid hpo
        clear hP2 hk2 hpo
        rcases hgrow with ⟨h4, -⟩ | ⟨h0, hgrow⟩
        · subst h4
          clear xlog xgap xwh xrec xfit xsz xlen
          go_wp2_with fail
          refine (H3.out _ HGB4.out HFV4.out).mono ?_
          rintro e w5 ⟨v5, rfl, hown5, g5⟩
          obtain ⟨A5, c5, hv5, -, -⟩ := hown5.form
          obtain ⟨m5, hm5⟩ : ∃ m, m = P2.length := ⟨_, rfl⟩
          rw [← hm5] at hv5
          subst hv5
          have HG5 := Lib.hid (HGB4.out.trans g5)
          clear hown5 g5 hm5
          go_wp2_with fail
          go_ret
          exact ⟨rfl, HG5.out⟩
        subst h0
        have HW := Lib.hid (show (∀ f ∈ X, ¬ tornF f) ∧ X.flatMap recsF = R ∧ Fit L1 ∧ (∀ f ∈ L1, f.size ≤ 1048576) ∧ L1.length * 48 ≤ 140737488355328 from ⟨xwh, xrec, xfit, xsz, xlen⟩)
        have H4 := Lib.hid (fun vo w1 (hu : FV w1 (.slice A3 m3 c3) L1) (ho : OV w1 vo P2) => rdo_any (.slice A3 m3 c3) vo L1 P2 w1 hu ho xfit (fun o ho => (HPO.out o ho).1) xlen)
        clear xlog xgap xwh xrec xfit xsz xlen
        rcases hgrow with h4 | ⟨L2, X2, hr2, hlog2, hgr2, hfine, -⟩
        · have H5 : Hid (∀ vo w1, FV w1 (.slice A3 m3 c3) L1 → OV w1 vo P2 → Calls Tryd.prog 16 #[.agg #[.slice A3 m3 c3], vo] w1 fun e w' => ∃ A n c k, e = .returned (.tuple #[.agg #[.slice A n c], .int .i64 k, .int .i64 4]) ∧ Gr w1 w') := Lib.hid (fun vo w1 hu ho => (H4.out vo w1 hu ho).mono fun e w' ⟨v, he, ho, hg⟩ => by
            obtain ⟨A, c, hv, -, -⟩ := ho.form
            exact ⟨A, _, c, ((run L1 P2).2.1 : Int), by rw [he, h4, hv]; rfl, hg⟩)
          clear h4 H4
          go_wp2_with fail
          refine (H3.out _ HGB4.out HFV4.out).mono ?_
          rintro e w5 ⟨v5, rfl, hown5, g5⟩
          obtain ⟨A5, c5, hv5, -, -⟩ := hown5.form
          obtain ⟨m5, hm5⟩ : ∃ m, m = P2.length := ⟨_, rfl⟩
          rw [← hm5] at hv5
          subst hv5
          have HG5 := Lib.hid (HGB4.out.trans g5)
          have HO5 := Lib.hid hown5.ov
          have HFV5 := Lib.hid (HFV4.out.gr g5)
          have hbb5 := g5.cell HBB.out
          clear hown5 g5 hm5
          go_wp2_with fail
          refine (H5.out _ _ HFV5.out HO5.out).mono ?_
          rintro e w6 ⟨A6, n6, c6, k6, rfl, g6⟩
          have HG6 := Lib.hid (HG5.out.trans g6)
          clear g6 hbb5
          go_wp2_with fail
          go_ret
          exact ⟨rfl, HG6.out.alloc _⟩
        have H5 : Hid (∀ vo w1, FV w1 (.slice A3 m3 c3) L1 → OV w1 vo P2 → Calls Tryd.prog 16 #[.agg #[.slice A3 m3 c3], vo] w1 fun e w' => RetDoV L2 P2.length 0 w1 e w') := Lib.hid (fun vo w1 hu ho => by
          have := H4.out vo w1 hu ho
          unfold RetDo at this
          rw [hr2] at this
          exact this)
        have hfit2 : Fit L2 := by have := run_fit (ops := P2) HW.out.2.2.1; rw [hr2] at this; exact this
        obtain ⟨hw2, hrec2⟩ := grown_recs (by omega) HW.out.1 hgr2
        have hop2 : openW L2 wBB = (R ++ [rec.data.toList], []) := by rw [hlog2.opens hw2, hrec2, HW.out.2.1]
        have hsm2 : ∀ f ∈ segL L2 wBB, f.size ≤ 1048576 := fun f hf => hfine.size HW.out.2.2.2.1 f (segL_mem hf)
        have hlen2' : L2.length * 48 ≤ 140737488355328 := by have := hfine.len; have := HW.out.2.2.2.2; omega
        have H6 := Lib.hid (fun u w1 (hu : FV w1 u L2) (g : Gr w w1) => open_yes u L2 wBB w1 hu prefix_w hfit2 hsm2 hlen2' (HH.out.gr g))
        rw [hop2] at H6
        clear hr2 hlog2 hgr2 hfine hfit2 hw2 hrec2 hop2 hsm2 hlen2' H4
        go_wp2_with fail
        refine (H3.out _ HGB4.out HFV4.out).mono ?_
        rintro e w5 ⟨v5, rfl, hown5, g5⟩
        obtain ⟨A5, c5, hv5, hc5, hc5'⟩ := hown5.form
        obtain ⟨m5, hm5⟩ : ∃ m, m = P2.length := ⟨_, rfl⟩
        rw [← hm5] at hv5 H5 hc5
        subst hv5
        have HM5 := Lib.hid hm5
        have HG5 := Lib.hid (HGB4.out.trans g5)
        have HG25 := Lib.hid (HG24.out.trans g5)
        have HG35 := Lib.hid (HG34.out.trans g5)
        have HSB := Lib.hid (SO.gr HSA.out g5)
        have HO5 := Lib.hid hown5.ov
        have HFV5 := Lib.hid (HFV4.out.gr g5)
        have hbb5 := g5.cell HBB.out
        clear hown5 g5 hm5
        go_wp2_with fail
        refine (H5.out _ _ HFV5.out HO5.out).mono ?_
        rintro e w6 ⟨v6, rfl, hown6, g6⟩
        obtain ⟨A6, c6, hv6, -, -⟩ := hown6.form
        obtain ⟨m6, hm6⟩ : ∃ m, m = L2.length := ⟨_, rfl⟩
        rw [← hm6] at hv6
        subst hv6
        have HG6 := Lib.hid (HG5.out.trans g6)
        have HGB6 := Lib.hid (gr_box w6 (.cells #[.slice A6 m6 c6] 24))
        have HG26 := Lib.hid ((HG25.out.trans g6).trans HGB6.out)
        have HG36 := Lib.hid ((HG35.out.trans g6).trans HGB6.out)
        have HSC := Lib.hid (SO.gr (SO.gr HSB.out g6) HGB6.out)
        have HO56 := Lib.hid ((HO5.out.gr g6).gr HGB6.out)
        have HFV6 := Lib.hid (hown6.fv.gr HGB6.out)
        have HB6 : Hid (World.cell? (w6.alloc (.cells #[.slice A6 m6 c6] 24)) ⟨w6.heap.size, 0, none⟩ = some (.slice A6 m6 c6)) := Lib.hid (by simp)
        have HG6' := Lib.hid (HG6.out.trans HGB6.out)
        clear hown6 g6 hm6 hbb5
        go_wp2_with fail
        go_loop [17] (fun i => ∃ k : Nat, k ≤ m5 ∧ i = .int .i64 (k : Int)) (fun i => m5 - (intOf i).toNat)
        case atStart => exact ⟨0, Nat.zero_le _, rfl⟩
        case round =>
          obtain ⟨k, hk, rfl⟩ := hrel
          by_cases hlt3 : k < m5
          · obtain ⟨Ao, co, hvo, -, -, ho3⟩ := HO56.out
            obtain ⟨bo, oo, hbo, -, q1, -, -⟩ := ho3 k (by rw [← HM5.out]; exact hlt3)
            injection hvo with e1 e2 e3
            subst e1
            subst hbo
            obtain ⟨x, hx⟩ : ∃ x, x = (P2[k]'(by rw [← HM5.out]; exact hlt3)).name := ⟨_, rfl⟩
            rw [← hx] at q1
            have hex : ∃ i, x = nameW wBB i := by rw [hx]; exact (HPO.out _ (List.getElem_mem _)).2
            have h8 : x.size = 8 := by obtain ⟨i, rfl⟩ := hex; rw [nameW_size]; rfl
            have ht1 : ((x.size : Int) != 8) = false := by rw [h8]; rfl
            have ht2 : (2 : Int) ≤ (x.size : Int) := by omega
            have ht3 : ((x.extract 0 2).toList == [119, 46]) = true := by obtain ⟨i, rfl⟩ := hex; exact lit_w.2 (nameW_begins i)
            clear ho3 e2 e3 hx hex h8
            go_wp2_with fail
            go_round
            case rel => exact ⟨k + 1, by omega, by go_num⟩
            case measure => simp [intOf]; omega
          · have hb6 := HB6.out
            go_wp2_with fail
            refine (H6.out _ _ HFV6.out HG6'.out).mono ?_
            rintro e w7 ⟨v7, v8, rfl, hs7, ho8, g7⟩
            obtain ⟨A8, c8, hv8, -, -⟩ := ho8.form
            have hv8 : v8 = .slice A8 0 c8 := hv8
            subst hv8
            have HG7 := Lib.hid (HG6'.out.trans g7)
            have HG27 := Lib.hid (HG26.out.trans g7)
            have HS7 := Lib.hid hs7.sv
            have HSH := Lib.hid (SO.gr HSC.out g7)
            have ht : ((m5 : Int) == (m5 : Int)) = true := by simp
            have HGB7 := Lib.hid (gr_box w7 (.cells #[.string rec] 9))
            have HSV := Lib.hid (sv_one w7 rec)
            have hRl : (R.map bs).length ≤ 1000000 * 131072 := HRL.out
            have H77 := Lib.hid (SO.gr hs7 HGB7.out)
            have hB7 : w3.heap.size ≤ (w6.alloc (.cells #[.slice A6 m6 c6] 24)).heap.size := HG36.out.size
            have HB7 := Lib.hid hB7
            clear hs7 ho8 g7 hb6 hB7
            go_wp2_with (refine wpList_push_strs_g (w0 := w2) (by first | rfl | (simp [Region.wanted, yielded])) (.tmp 142) (.tmp 144) rfl _ _ _ _ rfl (HSH.out.gr HGB7.out) rfl HSV.out (by rw [List.length_singleton]; omega) (HG27.out.trans HGB7.out) ?_; intro A9 c9 w9 hown9 g9 k9)
            have H9 := Lib.hid (so_apart H77.out HS1.out HB7.out k9)
            have H10 := Lib.hid (lsame_any v7 (.slice A9 (R.length + 1) c9) ((R ++ [rec.data.toList]).map bs) w9 H9.out.sv (by
              have := hown9.sv
              rw [List.length_map] at this
              rw [List.map_append, List.map_cons, List.map_nil, bs_data]
              exact this))
            have HG9 := Lib.hid (HG2.out.trans g9)
            clear hown9 g9 k9
            go_wp2_with fail
            refine H10.out.mono ?_
            rintro e w10 ⟨rfl, g10⟩
            have HG10 := Lib.hid (HG9.out.trans g10)
            clear g10
            go_wp2_with fail
            go_ret
            exact ⟨rfl, HG10.out⟩
      · rw [hst] at H0
        clear hst
        go_wp2_with fail
        refine (H0.out _ HGW.out).mono ?_
        rintro e w2 ⟨rfl, g2⟩
        have HG2 := Lib.hid (HGW.out.trans g2)
        clear g2
        go_wp2_with fail
        go_ret
        exact ⟨rfl, HG2.out⟩
end Go.Proofs.YtmkcgnljankmdaaDoor
