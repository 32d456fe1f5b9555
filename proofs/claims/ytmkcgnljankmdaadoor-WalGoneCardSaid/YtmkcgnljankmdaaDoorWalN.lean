/- Walks: the laws' look for two files of one name; the law WalGone: a log that was dropped. -/
import Derived.Test.YtmkcgnljankmdaaDoorWalL
import Derived.Test.YtmkcgnljankmdaaDoorWalJ
namespace Go.Proofs.YtmkcgnljankmdaaDoor
open Go.RowKit

/-- What the operations in order answer, known. -/
def RetDoV (L' : List F) (n k : Nat) (w : World) (e : Ending) (w' : World) : Prop :=
  ∃ v, e = .returned (.tuple #[.agg #[v], .int .i64 (n : Int), .int .i64 (k : Int)]) ∧ FO w' w.heap.size v L' ∧ Gr w w'
theorem rdo_at (v vo : Value) (L : List F) (ops : List O) (w : World) (hv : FV w v L) (ho : OV w vo ops) (hf : Fit L) (hfo : ∀ o ∈ ops, FitO o) (hlen : L.length * 48 ≤ 140737488355328) (L' : List F) (n k : Nat) (hr : run L ops = (L', n, k)) :
    Calls Tryd.prog 16 #[.agg #[v], vo] w fun e w' => RetDoV L' n k w e w' := by
  have h := rdo_any v vo L ops w hv ho hf hfo hlen
  unfold RetDo at h
  rw [hr] at h
  exact h
theorem mem_drops {p : ByteArray} {a : Nat} {o : O} : ∀ {t : Nat}, o ∈ dropsO p a t → ∃ i, i < t ∧ o = dropO p i
  | 0, h => by cases h
  | t + 1, h => by
    by_cases ha : a ≤ t
    · rw [dropsO_in ha] at h
      rcases List.mem_cons.1 h with e | h
      · exact ⟨t, Nat.lt_succ_self t, e⟩
      · obtain ⟨i, hi, e⟩ := mem_drops h
        exact ⟨i, by omega, e⟩
    · rw [dropsO_out (by omega)] at h
      cases h
theorem fitO_drop {p : ByteArray} (hp : p.size ≤ 1000) (i : Nat) : FitO (dropO p i) := by
  refine ⟨⟨(by decide : (-9223372036854775808 : Int) ≤ 4), (by decide : (4 : Int) ≤ 9223372036854775807)⟩, ⟨(by decide : (-9223372036854775808 : Int) ≤ 0), (by decide : (0 : Int) ≤ 9223372036854775807)⟩, ?_, (by decide : 0 ≤ 281474976710656)⟩
  show (nameW p i).size ≤ _
  rw [nameW_size]
  omega
theorem fitO_sync {p : ByteArray} (hp : p.size ≤ 1000) (i : Nat) : FitO (syncO p i) := by
  refine ⟨⟨(by decide : (-9223372036854775808 : Int) ≤ 2), (by decide : (2 : Int) ≤ 9223372036854775807)⟩, ⟨(by decide : (-9223372036854775808 : Int) ≤ 0), (by decide : (0 : Int) ≤ 9223372036854775807)⟩, ?_, (by decide : 0 ≤ 281474976710656)⟩
  show (nameW p i).size ≤ _
  rw [nameW_size]
  omega
theorem fitO_cut {p : ByteArray} (hp : p.size ≤ 1000) (i : Nat) {k : Nat} (hk : k ≤ 1048576) : FitO (cutO p i k) := by
  refine ⟨⟨(by decide : (-9223372036854775808 : Int) ≤ 3), (by decide : (3 : Int) ≤ 9223372036854775807)⟩, ⟨?_, ?_⟩, ?_, (by decide : 0 ≤ 281474976710656)⟩
  · show (-9223372036854775808 : Int) ≤ (k : Int)
    omega
  · show (k : Int) ≤ _
    omega
  · show (nameW p i).size ≤ _
    rw [nameW_size]
    omega
theorem fitO_write {p : ByteArray} (hp : p.size ≤ 1000) (i : Nat) {fr : ByteArray} (hk : fr.size ≤ 1048576) : FitO (writeO p i fr) := by
  refine ⟨⟨(by decide : (-9223372036854775808 : Int) ≤ 1), (by decide : (1 : Int) ≤ 9223372036854775807)⟩, ⟨(by decide : (-9223372036854775808 : Int) ≤ 0), (by decide : (0 : Int) ≤ 9223372036854775807)⟩, ?_, ?_⟩
  · show (nameW p i).size ≤ _
    rw [nameW_size]
    omega
  · show fr.size ≤ _
    omega
theorem fitO_open {L : List F} {p : ByteArray} (hp : p.size ≤ 1000) (hsm : ∀ f ∈ segL L p, f.size ≤ 1048576) : ∀ o ∈ (openW L p).2, FitO o := by
  intro o ho
  unfold openW at ho
  rcases open_cases (p := p) (m := (segL L p).length) (segL L p) 0 with h | ⟨j, hj, _, _, h3⟩
  · rw [open_whole _ 0 h] at ho
    cases ho
  · rw [h3] at ho
    rcases List.mem_append.1 ho with h | h
    · obtain ⟨i, _, rfl⟩ := mem_drops h
      exact fitO_drop hp i
    · rw [List.mem_singleton.1 h]
      exact fitO_cut hp _ (Nat.le_trans (recs_le _) (hsm _ (List.getElem_mem hj)))

/-- So far no two files have one name. -/
def Uniq (L : List F) (a : Nat) : Prop := ∀ x (hx : x < L.length), x < a → ∀ y (hy : y < L.length), y < x → L[x].name ≠ L[y].name
theorem Uniq.all {L : List F} (h : Uniq L L.length) : Dist L := by
  unfold Dist
  refine List.pairwise_iff_getElem.2 (fun i j hi hj hij => ?_)
  rw [List.length_map] at hi hj
  simp only [List.getElem_map]
  exact fun e => h j hj hj i hi hij e.symm
def DNRel (L : List F) (n : Nat) (w1 : World) (i : Value) (wr : World) : Prop := ∃ a : Nat, i = .int .i64 (a : Int) ∧ a ≤ n ∧ Uniq L a ∧ Gr w1 wr
def DMRel (L : List F) (a : Nat) (w1 : World) (i : Value) (wr : World) : Prop := ∃ b : Nat, i = .int .i64 (b : Int) ∧ b ≤ a ∧ (∀ (ha : a < L.length) y (hy : y < L.length), y < b → L[a].name ≠ L[y].name) ∧ Gr w1 wr
theorem uniq_step {L : List F} {a b : Nat} (hu : Uniq L a) (hb : ¬ b < a) (h : ∀ (ha : a < L.length) y (hy : y < L.length), y < b → L[a].name ≠ L[y].name) : Uniq L (a + 1) := by
  intro x hx hxa y hy hyx
  by_cases e : x = a
  · subst e
    exact h hx y hy (by omega)
  · exact hu x hx (by omega) y hy hyx

set_option maxRecDepth 100000 in
set_option maxHeartbeats 4000000 in
theorem wgone_walk (v : Value) (L : List F) (p : ByteArray) (w : World) (hv : FV w v L) (hps : p.size ≤ 9223372036854775807) (hf : Fit L) (hlen : L.length * 48 ≤ 140737488355328) (hH : Halves w) :
    Calls Tryd.prog 7 #[.agg #[v], .string p] w fun e w' => e = .returned (.bool true) ∧ Gr w w' := by
  have HA := Lib.hid (fun w1 (g : Gr w w1) => wawake_any w1 (hH.gr g))
  have HH := Lib.hid hH
  have HV := Lib.hid hv
  have HFit := Lib.hid hf
  obtain ⟨A, c, rfl, l1, ⟨l2, _⟩, l3⟩ := hv
  have HC := Lib.hid l3
  have hc63 : c ≤ 9223372036854775807 := l2
  obtain ⟨n, hn⟩ : ∃ n, n = L.length := ⟨_, rfl⟩
  have HN := Lib.hid hn
  rw [← hn] at l1 HV hlen ⊢
  have HG := Lib.hid (gr_box w (.cells #[.slice A n c] 24))
  clear hH hf l2 l3 hn
  go_enter Tryd.func7, Tryd.ntmps7
  go_wp2_with fail
  refine (HA.out _ HG.out).mono ?_
  rintro e w1 ⟨rfl, g1⟩
  have HG1 := Lib.hid (HG.out.trans g1)
  have hb1 : w1.cell? ⟨w.heap.size, 0, none⟩ = some (.slice A n c) := g1.cell (by simp)
  have HB1 := Lib.hid hb1
  clear g1 hb1
  go_wp2_with fail
  go_loopw [5] (fun i wr => DNRel L n w1 i wr) (fun i _ => n - (intOf i).toNat)
  case atStart => exact ⟨0, rfl, Nat.zero_le _, fun x _ h => absurd h (Nat.not_lt_zero _), Gr.refl _⟩
  case round =>
    obtain ⟨a, rfl, ha, hu, hgr⟩ := hrel
    have HU := Lib.hid hu
    have HGR := Lib.hid hgr
    have hbx := hgr.cell HB1.out
    clear hu hgr
    by_cases hlt : a < n
    · go_wp2_with fail
      clear hbx
      go_loopw [6] (fun i wr => DMRel L a w1 i wr) (fun i _ => a - (intOf i).toNat)
      case atStart => exact ⟨0, rfl, Nat.zero_le _, fun _ y _ h => absurd h (Nat.not_lt_zero _), HGR.out⟩
      case round =>
        obtain ⟨b, rfl, hb, hne, hgr2⟩ := hrel
        have HNE := Lib.hid hne
        have HGR2 := Lib.hid hgr2
        clear hne
        by_cases hlt2 : b < a
        · have haL : a < L.length := by rw [← HN.out]; exact hlt
          have hbL : b < L.length := by omega
          obtain ⟨bk, off, rfl, q0, -, -⟩ := HC.out a haL
          obtain ⟨bk', off', hbk, r0, -, -⟩ := HC.out b hbL
          injection hbk with hbk
          injection hbk with e1 e2
          subst e1 e2
          have c0 := (HG1.out.trans hgr2).cell q0
          have c1 := (HG1.out.trans hgr2).cell r0
          have hbx := hgr2.cell HB1.out
          obtain ⟨x, hx⟩ : ∃ x, x = L[a].name := ⟨_, rfl⟩
          obtain ⟨y, hy⟩ : ∃ y, y = L[b].name := ⟨_, rfl⟩
          rw [← hx] at c0
          rw [← hy] at c1
          have hbn : b < n := by omega
          rcases hq : eqS x y with _ | _
          · have ht : (x.toList == y.toList) = false := hq
            have H2 : Hid (∀ (ha : a < L.length) z (hz : z < L.length), z < b + 1 → L[a].name ≠ L[z].name) := Lib.hid (fun ha z hz hzb => by
              by_cases e : z = b
              · subst e
                rw [← hx, ← hy]
                intro e2
                rw [e2, eqS_self] at hq
                cases hq
              · exact HNE.out ha z hz (by omega))
            clear q0 r0 hgr2 hx hy hq haL hbL
            go_wp2_with fail
            go_quiet (fail)
            go_wp2
            go_roundw
            case rel => exact ⟨b + 1, by go_num, by omega, H2.out, HGR2.out.drewN _⟩
            case measure => simp [intOf]; omega
          · have ht : (x.toList == y.toList) = true := hq
            clear q0 r0 hgr2 hx hy hq haL hbL
            go_wp2_with fail
            go_quiet (fail)
            go_wp2
            go_ret
            exact ⟨rfl, HG1.out.trans (HGR2.out.drewN _)⟩
        · have H2 := Lib.hid (uniq_step HU.out hlt2 HNE.out)
          clear hgr2
          go_wp2
          go_roundw
          case rel => exact ⟨a + 1, by go_num, by omega, H2.out, HGR2.out⟩
          case measure => simp [intOf]; omega
    · have hd : Dist L := Uniq.all (by have := HU.out; rw [show a = L.length by rw [← HN.out]; omega] at this; exact this)
      have HD := Lib.hid hd
      have HGW := Lib.hid (HG1.out.trans HGR.out)
      have HBX := Lib.hid hbx
      clear hd
      rcases hp : prefixB p with _ | _
      · have H1 := Lib.hid (fun w => drop_no (.slice A n c) p w hp hps ⟨_, _, _, rfl⟩)
        clear hp
        go_wp2_with fail
        refine (H1.out _).mono ?_
        rintro e w2 ⟨v2, rfl, hown, g2⟩
        obtain ⟨A2, c2, hv2, -, -⟩ := hown.form
        have hv2 : v2 = .slice A2 0 c2 := hv2
        subst hv2
        have HG2 := Lib.hid (HGW.out.trans g2)
        clear hown g2
        go_wp2_with fail
        go_ret
        exact ⟨rfl, HG2.out⟩
      · have hps8 := prefix_size hp
        obtain ⟨L', hr, hlog, hsub, hle⟩ := dropped (L := L) hp HD.out
        have H1 := Lib.hid (fun w1 (g : Gr w w1) => drop_yes (.slice A n c) L p w1 (HV.out.gr g) hp HFit.out (by rw [← HN.out]; exact hlen))
        have hfit' : Fit L' := fun f hf => HFit.out f (hsub f hf)
        have hop : openW L' p = ([], []) := hlog.opens (fun f hf => by cases hf)
        have hsm : ∀ f ∈ segL L' p, f.size ≤ 1048576 := fun f hf => by rw [hlog.segs.1] at hf; cases hf
        have hlen' : L'.length * 48 ≤ 140737488355328 := by rw [← HN.out] at hle; omega
        obtain ⟨P, hP⟩ : ∃ P, P = dropsO p 0 (segN L p) := ⟨_, rfl⟩
        have hfo : ∀ o ∈ P, FitO o := fun o ho => by
          rw [hP] at ho
          obtain ⟨i, _, rfl⟩ := mem_drops ho
          exact fitO_drop (by omega) i
        rw [← hP] at hr H1
        have H2 := Lib.hid (fun vo w1 (g : Gr w w1) (ho : OV w1 vo P) => rdo_at (.slice A n c) vo L P w1 (HV.out.gr g) ho HFit.out hfo (by rw [← HN.out]; exact hlen) L' P.length 0 hr)
        have H3 := Lib.hid (fun u w1 (hu : FV w1 u L') (g : Gr w w1) => open_yes u L' p w1 hu hp hfit' hsm hlen' (HH.out.gr g))
        rw [hop] at H3
        clear hr hlog hsub hle hfit' hop hsm hP hfo hp
        go_wp2_with fail
        refine (H1.out _ HGW.out).mono ?_
        rintro e w2 ⟨v2, rfl, hown, g2⟩
        obtain ⟨A2, c2, hv2, -, -⟩ := hown.form
        obtain ⟨m, hm⟩ : ∃ m, m = P.length := ⟨_, rfl⟩
        rw [← hm] at hv2 H2
        subst hv2
        have HO2 := Lib.hid hown.ov
        have HG2 := Lib.hid (HGW.out.trans g2)
        have hbx2 := g2.cell HBX.out
        clear hown g2 hm hbx
        go_wp2_with fail
        refine (H2.out _ _ HG2.out HO2.out).mono ?_
        rintro e w3 ⟨v3, rfl, hown3, g3⟩
        obtain ⟨A3, c3, hv3, -, -⟩ := hown3.form
        obtain ⟨m3, hm3⟩ : ∃ m, m = L'.length := ⟨_, rfl⟩
        rw [← hm3] at hv3
        subst hv3
        have HO3 := Lib.hid hown3.fv
        have HG3 := Lib.hid (HG2.out.trans g3)
        have HGB := Lib.hid (gr_box w3 (.cells #[.slice A3 m3 c3] 24))
        clear hown3 g3 hm3 hbx2
        go_wp2_with fail
        refine (H3.out _ _ (HO3.out.gr HGB.out) (HG3.out.trans HGB.out)).mono ?_
        rintro e w4 ⟨v4, v5, rfl, hs4, ho5, g4⟩
        obtain ⟨A4, c4, hv4, -, -⟩ := so_form hs4
        obtain ⟨A5, c5, hv5, -, -⟩ := ho5.form
        have hv4 : v4 = .slice A4 0 c4 := hv4
        have hv5 : v5 = .slice A5 0 c5 := hv5
        subst hv4 hv5
        have HG4 := Lib.hid ((HG3.out.trans HGB.out).trans g4)
        have ht : ((m : Int) == (m : Int)) = true := by simp
        clear hs4 ho5 g4
        go_wp2_with fail
        go_ret
        exact ⟨rfl, HG4.out⟩
end Go.Proofs.YtmkcgnljankmdaaDoor
