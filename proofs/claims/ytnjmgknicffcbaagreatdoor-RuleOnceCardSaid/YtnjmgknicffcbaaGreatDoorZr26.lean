/- Walks: value's firm. Walks: value's last. -/
import Derived.Test.YtnjmgknicffcbaaGreatDoorZr20
import Derived.Test.YtnjmgknicffcbaaGreatDoorZr21
import Derived.Test.YtnjmgknicffcbaaGreatDoorZr25
namespace Go.Proofs.YtnjmgknicffcbaaGreatDoor
open Go.RowKit Go.Joins
set_option linter.unusedSimpArgs false
set_option linter.unusedVariables false

set_option maxRecDepth 100000 in
theorem firm1_any (s : ByteArray) (a : Nat) (v : Value) (G : List ByteArray) (w : World) (ha : w.cell? ⟨a, 0, none⟩ = some v) (hv : SV w v G) (hr : RisingS G) (hlen : G.length < 4611686018427387904) :
    Calls Tryz.prog 209 #[.string s, .pointer (some ⟨a, 0, none⟩)] w fun e w' => e = .returned (.bool (memS G s)) ∧ Gr w w' := by
  have HB := Lib.hid (binS_any v G s w hv hr hlen)
  obtain ⟨A, c, hva, -⟩ := hv
  subst hva
  obtain ⟨n, hn⟩ : ∃ n, n = G.length := ⟨_, rfl⟩
  rw [← hn] at HB ha
  clear hr hlen hn
  go_enter Tryz.func209, Tryz.ntmps209
  go_wp2_with fail
  refine HB.out.mono ?_
  rintro e w1 ⟨i, rfl, g1⟩
  go_wp2_with fail
  go_ret
  exact ⟨rfl, g1⟩
/-- A Firm key's elements: those added, without those of a Remove that no Add of them sees. -/
def firmL (D : List DD) : List ByteArray := (riseT (elemsD (kindF 4 D))).filter fun s => !memS (riseT (elemsD (unsL 5 4 D))) s
theorem egFirm : ∀ args w, (callFunc 209 args).run Tryz.prog w = .ok (.enter 209 args) w := fun args w => by kernel_rfl
theorem kindF_le (k : Int) (D : List DD) : (kindF k D).length ≤ D.length := by
  have := kindF_len k D D.length
  rw [List.take_length] at this
  exact this
theorem unsL_le (a b : Int) (D : List DD) : (unsL a b D).length ≤ D.length := Nat.le_trans (List.length_filter_le _ _) (kindF_le a D)
theorem unsL_mem {a b : Int} {D : List DD} {d : DD} (h : d ∈ unsL a b D) : d ∈ D := kindF_mem (List.mem_filter.1 h).1
theorem Kp.cellNe {g : Nat} {w w' : World} (k : Kp (some g) w w') {p : Addr} {v : Value} (h : w.cell? p = some v) (hne : p.block ≠ g) : w'.cell? p = some v := by
  have hlt : p.block < w.heap.size := by
    rcases Nat.lt_or_ge p.block w.heap.size with c | c
    · exact c
    · have hn : w.heap[p.block]? = none := by simp; omega
      unfold World.cell? at h
      rw [hn] at h
      simp at h
  have hb := k.block p.block hlt (fun e => hne (Option.some.inj e))
  unfold World.cell? at h ⊢
  rw [hb]
  exact h
set_option maxRecDepth 100000 in
set_option maxHeartbeats 4000000 in
theorem firmV_any (v : Value) (D : List DD) (w : World) (h : DV w v D) (hx : DXs w D) (hlen : D.length ≤ 65536) (hs : ∀ d ∈ D, d.op.elem.size ≤ 281474976710656) :
    Calls Tryz.prog 184 #[v] w fun e w' => RetStrsV (firmL D) w e w' := by
  have hel : ∀ d ∈ D, (aboutT d.op).size ≤ maxLen := fun d hd => by
    have := hs d hd
    unfold aboutT
    split
    · exact Nat.zero_le _
    · unfold maxLen; omega
  have HU := Lib.hid (unseen_any v D 5 4 w h hx hlen hel)
  have HK := Lib.hid (fun w1 (g : Gr w w1) => ofKind_any v D 4 w1 (h.gr g) (hx.gr g) hlen)
  have HR := Lib.hid (fun (v1 : Value) (D1 : List DD) (w1 : World) (h1 : DV w1 v1 D1) (g : Gr w w1) (hsub : ∀ d ∈ D1, d ∈ D) (hl : D1.length ≤ 65536) => risingV_any v1 D1 w1 h1 (fun d hd => (hx d (hsub d hd)).gr g) hl (fun d hd => hs d (hsub d hd)))
  have HLU : Hid ((unsL 5 4 D).length ≤ 65536 ∧ ∀ d ∈ unsL 5 4 D, d ∈ D) := Lib.hid ⟨Nat.le_trans (unsL_le 5 4 D) hlen, fun d hd => unsL_mem hd⟩
  have HLK : Hid ((kindF 4 D).length ≤ 65536 ∧ ∀ d ∈ kindF 4 D, d ∈ D) := Lib.hid ⟨Nat.le_trans (kindF_le 4 D) hlen, fun d hd => kindF_mem hd⟩
  obtain ⟨A, c, hvf⟩ := dv_form h
  subst hvf
  obtain ⟨n, hn⟩ : ∃ n, n = D.length := ⟨_, rfl⟩
  rw [← hn] at HU HK ⊢
  clear h hx hlen hs hel hn
  go_enter Tryz.func184, Tryz.ntmps184
  go_wp2_with fail
  refine HU.out.mono ?_
  rintro e w1 ⟨s1, rfl, hd1, g1⟩
  have hd1 : DV w1 s1 (unsL 5 4 D) := hd1
  have HR1 := Lib.hid (HR.out s1 _ w1 hd1 g1 HLU.out.2 HLU.out.1)
  obtain ⟨A1, c1, hs1⟩ := dv_form hd1
  subst hs1
  have HG1 := Lib.hid g1
  obtain ⟨m1, hm1⟩ : ∃ m, m = (unsL 5 4 D).length := ⟨_, rfl⟩
  rw [← hm1] at HR1 ⊢
  clear hd1 g1 hm1
  go_wp2_with fail
  refine HR1.out.mono ?_
  rintro e w2 ⟨s2, rfl, ho2, g2⟩
  obtain ⟨G, hG⟩ : ∃ G, G = riseT (elemsD (unsL 5 4 D)) := ⟨_, rfl⟩
  rw [← hG] at ho2
  have HGG := Lib.hid hG
  have hrG : RisingS G := by rw [hG]; exact riseT_rising _
  have hlG : G.length ≤ 65536 := by
    rw [hG]
    have h1 := riseT_len (elemsD (unsL 5 4 D))
    rw [elemsD_len] at h1
    have := HLU.out.1
    omega
  have HRG := Lib.hid (And.intro hrG hlG)
  have HO2 := Lib.hid ho2
  obtain ⟨A2, c2, hs2, -, -⟩ := own_form ho2
  subst hs2
  obtain ⟨m2, hm2⟩ : ∃ m, m = G.length := ⟨_, rfl⟩
  rw [← hm2] at HO2 ⊢
  obtain ⟨W, hW, hg, hc, hsz⟩ : ∃ W, W = w2.alloc (.cells #[.slice A2 m2 c2] 93) ∧ Gr w2 W ∧ W.cell? ⟨w2.heap.size, 0, none⟩ = some (.slice A2 m2 c2) ∧ W.heap.size = w2.heap.size + 1 := by
    refine ⟨_, rfl, (Gr.refl _).alloc _, ?_, ?_⟩
    · rw [cell_of_block (heap_alloc w2 #[.slice A2 m2 c2] 93)]
      rfl
    · simp
  have HG2 := Lib.hid ((HG1.out.trans g2).trans hg)
  have HOW : Hid (SO W w1.heap.size (.slice A2 m2 c2) G) := Lib.hid (HO2.out.gr hg)
  have HBL : Hid (∀ b, (Value.slice A2 m2 c2).ownBlock = some b → b < w2.heap.size) := Lib.hid (fun b hb => (World.ownsRow.lt (h := HO2.out) b hb).2)
  have HC := Lib.hid hc
  have HSZ := Lib.hid hsz
  clear ho2 g2 hG hrG hlG hm2 hg hc hsz
  go_upto_region 2 with (fail)
  rw [← hW]
  clear hW
  go_wp2_with fail
  refine (HK.out _ HG2.out).mono ?_
  rintro e w4 ⟨s4, rfl, ho4, g4⟩
  have HR4 := Lib.hid (HR.out s4 _ w4 ho4.dv (HG2.out.trans g4) HLK.out.2 HLK.out.1)
  obtain ⟨A4, c4, hs4⟩ := slice_dd ho4
  subst hs4
  have HG4 := Lib.hid g4
  obtain ⟨m4, hm4⟩ : ∃ m, m = (kindF 4 D).length := ⟨_, rfl⟩
  rw [← hm4] at HR4 ⊢
  clear ho4 g4 hm4
  go_wp2_with fail
  refine HR4.out.mono ?_
  rintro e w5 ⟨s5, rfl, ho5, g5⟩
  obtain ⟨E, hE⟩ : ∃ E, E = riseT (elemsD (kindF 4 D)) := ⟨_, rfl⟩
  rw [← hE] at ho5
  have HP : Hid (PrS 209 w2.heap.size w4.heap.size (memS G) (fun x => x.cell? ⟨w2.heap.size, 0, none⟩ = some (.slice A2 m2 c2) ∧ SO x w1.heap.size (.slice A2 m2 c2) G) E) := Lib.hid (by
    refine ⟨fun x x' g hc hk hg => ?_, fun x x' hc hk => ⟨hk.cell hc.1, hc.2.gr hk⟩, fun s _ x hc => firm1_any s w2.heap.size _ G x hc.1 hc.2.sv HRG.out.1 (by have := HRG.out.2; omega), egFirm⟩
    have h4 := HG4.out.size
    have h5 := HSZ.out
    refine ⟨hk.cellNe hc.1 ?_, World.ownsRow.kept hc.2 hk ?_⟩
    · show w2.heap.size ≠ g
      omega
    · cases hb : (Value.slice A2 m2 c2).ownBlock with
      | none => exact .inl rfl
      | some b =>
        refine .inr fun e => ?_
        have := HBL.out b hb
        injection e with e
        omega)
  have HDL := Lib.hid (delS_any s5 E 209 w2.heap.size w4.heap.size (memS G) _ w5 ho5 HP.out ⟨g5.cell (HG4.out.cell HC.out), (HOW.out.gr HG4.out).gr g5⟩)
  have HBS : Hid (∀ b, s5.ownBlock = some b → w.heap.size ≤ b) := Lib.hid (fun b hb => by
    have h1 := (World.ownsRow.lt (h := ho5) b hb).1
    have h2 := HG2.out.size
    have h3 := HG4.out.size
    omega)
  have HG5 := Lib.hid ((HG2.out.trans HG4.out).trans g5)
  obtain ⟨A5, c5, hs5, -, -⟩ := own_form ho5
  subst hs5
  have HEE : Hid (E.filter (fun s => !memS G s) = firmL D) := Lib.hid (by rw [hE, HGG.out]; rfl)
  obtain ⟨m5, hm5⟩ : ∃ m, m = E.length := ⟨_, rfl⟩
  rw [← hm5] at HDL HBS ⊢
  clear ho5 g5 hE hm5
  go_wp2_with fail
  refine HDL.out.mono ?_
  rintro e w6 ⟨v6, rfl, ho6, hb6, k6⟩
  rw [HEE.out] at ho6
  have HO6 := Lib.hid ho6
  have HG6 := Lib.hid (Kp.gr_of HG5.out k6 (fun q hq => HBS.out q hq))
  obtain ⟨A6, c6, hs6, -, -⟩ := own_form ho6
  subst hs6
  obtain ⟨m6, hm6⟩ : ∃ m, m = (firmL D).length := ⟨_, rfl⟩
  rw [← hm6] at HO6 ⊢
  have HSZ6 : Hid (w.heap.size ≤ w4.heap.size) := Lib.hid (HG2.out.trans HG4.out).size
  clear ho6 hb6 k6 hm6
  go_wp2_with fail
  go_ret
  exact ⟨_, rfl, HO6.out.le HSZ6.out, HG6.out⟩
end Go.Proofs.YtnjmgknicffcbaaGreatDoor
namespace Go.Proofs.YtnjmgknicffcbaaGreatDoor
open Go.RowKit Go.Joins
set_option linter.unusedSimpArgs false
set_option linter.unusedVariables false

/-- The deed with the greatest stamp, of those the last one. -/
def topN (o : Option DD) (d : DD) : Option DD := match o with | none => some d | some t => if t.t.stamp ≤ d.t.stamp then some d else some t
theorem topN_yes {t d : DD} (h : t.t.stamp ≤ d.t.stamp) : topN (some t) d = some d := if_pos h
theorem topN_no {t d : DD} (h : ¬ t.t.stamp ≤ d.t.stamp) : topN (some t) d = some t := if_neg h
def topD (D : List DD) : Option DD := D.foldl topN none
theorem topD_next {D : List DD} {j : Nat} (h : j < D.length) : topD (D.take (j + 1)) = topN (topD (D.take j)) D[j] := by
  unfold topD
  rw [List.take_succ_eq_append_getElem h, List.foldl_append]
  rfl
theorem topD_mem : ∀ {D : List DD} {t : DD}, topD D = some t → t ∈ D := by
  have h : ∀ (D : List DD) (o : Option DD) {t : DD}, D.foldl topN o = some t → t ∈ D ∨ o = some t := by
    intro D
    induction D with
    | nil => intro o t h; exact .inr h
    | cons d r ih =>
      intro o t h
      rw [List.foldl_cons] at h
      rcases ih _ h with k | k
      · exact .inl (List.mem_cons_of_mem _ k)
      · unfold topN at k
        split at k
        · injection k with k; exact .inl (by rw [k]; simp)
        · split at k
          · injection k with k; exact .inl (by rw [k]; simp)
          · exact .inr k
  intro D t ht
  rcases h D none ht with k | k
  · exact k
  · cases k
/-- How the best one so far lies: none, or a row of one. -/
def TopV (w : World) (s : Value) (o : Option DD) : Prop :=
  match o with
  | none => s = .slice none 0 0
  | some t => ∃ b, s = .slice (some ⟨b, 0, none⟩) 1 1 ∧ DCell w b 0 t
theorem TopV.gr {w w' : World} {s : Value} {o : Option DD} (h : TopV w s o) (g : Gr w w') : TopV w' s o := by
  cases o with
  | none => exact h
  | some t => obtain ⟨b, h1, h2⟩ := h; exact ⟨b, h1, h2.gr g⟩
theorem TopV.dv {w : World} {s : Value} {o : Option DD} (h : TopV w s o) : DV w s o.toList := by
  cases o with
  | none => have h : s = _ := h; subst h; exact (DO.nil w 0).dv
  | some t =>
    obtain ⟨b, h1, h2⟩ := h
    subst h1
    refine ⟨some ⟨b, 0, none⟩, 1, rfl, Nat.le_refl _, ⟨by decide, fun h => by cases h⟩, fun j hj => ⟨b, 0, rfl, ?_⟩⟩
    have hj0 : j = 0 := by simpa using hj
    subst hj0
    exact h2
/-- A Last key's elements. -/
def lastL (D : List DD) : List ByteArray := elemsD (topD (kindF 6 D)).toList
theorem riseT_last (D : List DD) : riseT (elemsD (topD (kindF 6 D)).toList) = lastL D := by
  unfold lastL
  cases topD (kindF 6 D) <;> rfl
set_option maxRecDepth 100000 in
set_option maxHeartbeats 4000000 in
theorem lastV_any (v : Value) (D : List DD) (w : World) (h : DV w v D) (hx : DXs w D) (hlen : D.length ≤ 65536) (hs : ∀ d ∈ D, d.op.elem.size ≤ 281474976710656) :
    Calls Tryz.prog 185 #[v] w fun e w' => RetStrsV (lastL D) w e w' := by
  have HK := Lib.hid (ofKind_any v D 6 w h hx hlen)
  have HR := Lib.hid (fun (v1 : Value) (D1 : List DD) (w1 : World) (h1 : DV w1 v1 D1) (g : Gr w w1) (hsub : ∀ d ∈ D1, d ∈ D) (hl : D1.length ≤ 65536) => risingV_any v1 D1 w1 h1 (fun d hd => (hx d (hsub d hd)).gr g) hl (fun d hd => hs d (hsub d hd)))
  have HX := Lib.hid hx
  obtain ⟨A, c, hvf⟩ := dv_form h
  subst hvf
  obtain ⟨n0, hn0⟩ : ∃ n, n = D.length := ⟨_, rfl⟩
  rw [← hn0] at HK ⊢
  have HLR := Lib.hid (riseT_last D)
  obtain ⟨K, hK⟩ : ∃ K, K = kindF 6 D := ⟨_, rfl⟩
  rw [← hK] at HK HLR
  have HKM : Hid (∀ d ∈ K, d ∈ D) := Lib.hid (fun d hd => by rw [hK] at hd; exact kindF_mem hd)
  have HKL : Hid (K.length ≤ 65536) := Lib.hid (by rw [hK]; exact Nat.le_trans (kindF_le 6 D) hlen)
  clear h hx hlen hs hn0 hK
  go_enter Tryz.func185, Tryz.ntmps185
  go_wp2_with fail
  refine HK.out.mono ?_
  rintro e w2 ⟨s2, rfl, ho2, g2⟩
  obtain ⟨A2, c2, hs2⟩ := slice_dd ho2
  subst hs2
  obtain ⟨Ax, cx, hvx, -, -, hat⟩ := ho2.dv
  injection hvx with e1 e2 e3
  subst e1 e3
  have HAT : Hid (∀ j (hj : j < K.length), ∃ b off, A2 = some ⟨b, off, none⟩ ∧ DCell w2 b (off + j * 2) K[j]) := Lib.hid hat
  obtain ⟨n, hn⟩ : ∃ n, n = K.length := ⟨_, rfl⟩
  rw [← hn]
  have HN := Lib.hid hn
  have hnb : n ≤ 65536 := by have := HKL.out; omega
  have HG2 := Lib.hid g2
  clear ho2 e2 hat hn g2
  go_wp2_with fail
  go_loopw [3, 9] (fun s i wr => ∃ j : Nat, j ≤ n ∧ i = .int .i64 j ∧ Hid (TopV wr s (topD (K.take j)) ∧ Gr w2 wr)) (fun _ i _ => n - (intOf i).toNat)
  case atStart => exact ⟨0, Nat.zero_le _, rfl, Lib.hid ⟨rfl, Gr.refl _⟩⟩
  case round =>
    obtain ⟨j, hj, rfl, hst⟩ := hrel
    rename World => wr
    by_cases hjn : j < n
    · have hj0 : (0 : Int) ≤ (j : Int) := Int.natCast_nonneg _
      have hjn1 : (j : Int) < (n : Int) := by omega
      have hjl : j < K.length := by rw [← HN.out]; exact hjn
      obtain ⟨b, off, hA, hc0⟩ := HAT.out j hjl
      subst hA
      obtain ⟨d, hd⟩ : ∃ d, d = K[j] := ⟨_, rfl⟩
      rw [← hd] at hc0
      obtain ⟨c0, c1⟩ := hc0.gr hst.out.2
      have hdx : DX w d := HX.out d (HKM.out d (by rw [hd]; exact List.getElem_mem hjl))
      obtain ⟨W5, hW5, hg5, y0, y1⟩ := dbox wr d
      have hxd := hdx.gr ((HG2.out.trans hst.out.2).trans hg5)
      obtain ⟨⟨vd, -, -, -, xs2, -, -, -, -, -, -, -, -, -⟩, -⟩ := hxd
      have HNX := Lib.hid (topD_next hjl)
      rw [← hd] at HNX
      obtain ⟨o, ho⟩ : ∃ o, o = topD (K.take j) := ⟨_, rfl⟩
      rw [← ho] at HNX
      have htv := hst.out.1
      rw [← ho] at htv
      have HTM : Hid (∀ t, o = some t → DX W5 t) := Lib.hid (fun t ht => (HX.out t (HKM.out t (List.mem_of_mem_take (topD_mem (by rw [← ho]; exact ht))))).gr ((HG2.out.trans hst.out.2).trans hg5))
      obtain ⟨sd, hsd⟩ : ∃ x, x = d.t.stamp := ⟨_, rfl⟩
      rw [← hsd] at xs2
      have HD := Lib.hid hd
      have HSD := Lib.hid hsd
      obtain ⟨db, hdb⟩ : ∃ x, x = d.b := ⟨_, rfl⟩
      obtain ⟨dk, hdk⟩ : ∃ x, x = d.o := ⟨_, rfl⟩
      obtain ⟨di, hdi⟩ : ∃ x, x = d.i := ⟨_, rfl⟩
      rw [← hdb, ← hdk] at c0 y0 xs2
      rw [← hdi] at c1 y1
      rw [← hdb, ← hdk, ← hdi] at hW5
      have HG5 : Hid (Gr w2 W5) := Lib.hid (hst.out.2.trans hg5)
      have HG5b := Lib.hid hg5
      have HDD := Lib.hid (And.intro hdb (And.intro hdk hdi))
      clear hc0 hdx hst hd hsd hdb hdk hdi ho
      cases o with
      | none =>
        have htv : _ = Value.slice none 0 0 := htv
        subst htv
        have HN1 : Hid (topD (K.take (j + 1)) = some d) := Lib.hid HNX.out
        clear hg5
        go_upto_region 5 with (fail)
        rw [← hW5]
        clear hW5 c0 c1
        have HY := Lib.hid (And.intro y0 (And.intro y1 xs2))
        clear y0 y1 xs2
        refine qRegion (fun w' => w'.cell? ⟨wr.heap.size, 0, none⟩ = some (.pointer (some ⟨db, dk, none⟩)) ∧ w'.cell? ⟨wr.heap.size, 1, none⟩ = some (.int .i64 (di : Int)) ∧ Gr W5 w') (by kernel_rfl) (by kernel_rfl) ⟨(Gr.refl _).drew.cell HY.out.1, (Gr.refl _).drew.cell HY.out.2.1, (Gr.refl _).drew⟩ ?_
        iterate 4
          refine qTake (by kernel_rfl) ?_
          apply Exists.intro
          refine ⟨fun wq hq => ?_, ?_⟩
          · go_light
            obtain ⟨e0, e1, -⟩ := hq
            go_simp
            try with_reducible rfl
            done
          try simp only [Act.put, List.setIfInBounds_toArray, List.set_cons_zero, List.set_cons_succ]
        iterate 13
          refine qSkip (by kernel_rfl) ?_
          try simp only [Act.put, List.setIfInBounds_toArray, List.set_cons_zero, List.set_cons_succ]
        iterate 1
          refine qTake (by kernel_rfl) ?_
          apply Exists.intro
          refine ⟨fun wq hq => ?_, ?_⟩
          · go_light
            obtain ⟨e0, e1, -⟩ := hq
            go_simp
            try with_reducible rfl
            done
          try simp only [Act.put, List.setIfInBounds_toArray, List.set_cons_zero, List.set_cons_succ]
        refine qNil ?_
        intro w3 hC
        obtain ⟨y0, y1, hg3⟩ := hC
        have HG3 := Lib.hid hg3
        obtain ⟨W6, hW6, hg6, hD6⟩ : ∃ W6, W6 = w3.alloc (.cells #[.pointer (some ⟨db, dk, none⟩), .int .i64 (di : Int)] 225) ∧ Gr w3 W6 ∧ TopV W6 (.slice (some ⟨w3.heap.size, 0, none⟩) 1 1) (some d) := by
          refine ⟨_, rfl, (Gr.refl _).alloc _, w3.heap.size, rfl, ?_, ?_⟩
          · rw [World.cell?_alloc_mark]; rw [HDD.out.1, HDD.out.2.1]; rfl
          · rw [World.cell?_alloc_at _ _ _ _ rfl]; rw [HDD.out.2.2]; rfl
        have HE : Hid (TopV W6 (.slice (some ⟨w3.heap.size, 0, none⟩) 1 1) (topD (K.take (j + 1))) ∧ Gr w2 W6) := Lib.hid ⟨by rw [HN1.out]; exact hD6, (HG5.out.trans hg3).trans hg6⟩
        clear hg3 hg6 hD6
        go_upto_region 7 with (fail)
        rw [← hW6]
        clear hW6
        go_wp2_with fail
        go_roundw
        case measure => simp [intOf]; omega
        case rel => exact ⟨j + 1, by omega, by go_num, HE⟩
      | some t =>
        obtain ⟨tb, hs, ht0, ht1⟩ := htv
        subst hs
        have ht0 := hg5.cell ht0
        have hxt := HTM.out t rfl
        obtain ⟨⟨vt, -, -, -, xt2, -, -, -, -, -, -, -, -, -⟩, -⟩ := hxt
        have HT1 := Lib.hid (hg5.cell ht1)
        obtain ⟨st, hst⟩ : ∃ x, x = t.t.stamp := ⟨_, rfl⟩
        rw [← hst] at xt2
        have HST := Lib.hid hst
        have HTC : Hid (DCell W5 tb 0 t) := Lib.hid ⟨ht0, HT1.out⟩
        obtain ⟨tq, htq⟩ : ∃ x, x = t.b := ⟨_, rfl⟩
        obtain ⟨tk, htk⟩ : ∃ x, x = t.o := ⟨_, rfl⟩
        rw [← htq, ← htk] at ht0 xt2
        clear hst hg5 ht1 htq htk
        go_upto_region 5 with (fail)
        rw [← hW5]
        clear hW5 c0 c1
        have HY := Lib.hid (And.intro y0 (And.intro y1 (And.intro xs2 (And.intro ht0 xt2))))
        clear y0 y1 xs2 ht0 xt2
        refine qRegion (fun w' => w'.cell? ⟨wr.heap.size, 0, none⟩ = some (.pointer (some ⟨db, dk, none⟩)) ∧ w'.cell? ⟨wr.heap.size, 1, none⟩ = some (.int .i64 (di : Int)) ∧ w'.cell? ⟨db, dk + 2, none⟩ = some (.int .u64 (sd : Int)) ∧ w'.cell? ⟨tb, 0, none⟩ = some (.pointer (some ⟨tq, tk, none⟩)) ∧ w'.cell? ⟨tq, tk + 2, none⟩ = some (.int .u64 (st : Int)) ∧ Gr W5 w') (by kernel_rfl) (by kernel_rfl) ⟨(Gr.refl _).drew.cell HY.out.1, (Gr.refl _).drew.cell HY.out.2.1, (Gr.refl _).drew.cell HY.out.2.2.1, (Gr.refl _).drew.cell HY.out.2.2.2.1, (Gr.refl _).drew.cell HY.out.2.2.2.2, (Gr.refl _).drew⟩ ?_
        iterate 18
          refine qTake (by kernel_rfl) ?_
          apply Exists.intro
          refine ⟨fun wq hq => ?_, ?_⟩
          · go_light
            obtain ⟨e0, e1, e2, e3, e4, -⟩ := hq
            go_simp
            try with_reducible rfl
            done
          try simp only [Act.put, List.setIfInBounds_toArray, List.set_cons_zero, List.set_cons_succ]
        refine qNil ?_
        intro w3 hC
        obtain ⟨y0, y1, -, -, -, hg3⟩ := hC
        have HG3 := Lib.hid hg3
        by_cases hle : st ≤ sd
        · have hle1 : (st : Int) ≤ (sd : Int) := by omega
          have hle2 : decide ((st : Int) ≤ (sd : Int)) = true := decide_eq_true hle1
          have HN1 : Hid (topD (K.take (j + 1)) = some d) := Lib.hid (by rw [HNX.out]; exact topN_yes (by rw [← HST.out, ← HSD.out]; exact hle))
          obtain ⟨W6, hW6, hg6, hD6⟩ : ∃ W6, W6 = w3.alloc (.cells #[.pointer (some ⟨db, dk, none⟩), .int .i64 (di : Int)] 225) ∧ Gr w3 W6 ∧ TopV W6 (.slice (some ⟨w3.heap.size, 0, none⟩) 1 1) (some d) := by
            refine ⟨_, rfl, (Gr.refl _).alloc _, w3.heap.size, rfl, ?_, ?_⟩
            · rw [World.cell?_alloc_mark]; rw [HDD.out.1, HDD.out.2.1]; rfl
            · rw [World.cell?_alloc_at _ _ _ _ rfl]; rw [HDD.out.2.2]; rfl
          have HE : Hid (TopV W6 (.slice (some ⟨w3.heap.size, 0, none⟩) 1 1) (topD (K.take (j + 1))) ∧ Gr w2 W6) := Lib.hid ⟨by rw [HN1.out]; exact hD6, (HG5.out.trans hg3).trans hg6⟩
          clear hg3 hg6 hD6
          go_upto_region 7 with (fail)
          rw [← hW6]
          clear hW6
          go_wp2_with fail
          go_roundw
          case measure => simp [intOf]; omega
          case rel => exact ⟨j + 1, by omega, by go_num, HE⟩
        · have hle1 : ¬ (st : Int) ≤ (sd : Int) := by omega
          have hle2 : decide ((st : Int) ≤ (sd : Int)) = false := decide_eq_false hle1
          have HN1 : Hid (topD (K.take (j + 1)) = some t) := Lib.hid (by rw [HNX.out]; exact topN_no (by rw [← HST.out, ← HSD.out]; exact hle))
          have HE : Hid (TopV w3 (.slice (some ⟨tb, 0, none⟩) 1 1) (topD (K.take (j + 1))) ∧ Gr w2 w3) := Lib.hid ⟨by rw [HN1.out]; exact ⟨tb, rfl, HTC.out.gr hg3⟩, HG5.out.trans hg3⟩
          clear hg3
          go_wp2_with fail
          go_roundw
          case measure => simp [intOf]; omega
          case rel => exact ⟨j + 1, by omega, by go_num, HE⟩
    · obtain rfl : j = n := by omega
      have htv := hst.out.1
      rw [HN.out, List.take_length] at htv
      have hmem : ∀ d ∈ (topD K).toList, d ∈ D := fun d hd => HKM.out d (topD_mem (by simpa using hd))
      have hl : (topD K).toList.length ≤ 65536 := by
        cases topD K <;> simp
      have HRR := Lib.hid (HR.out _ _ wr htv.dv (HG2.out.trans hst.out.2) hmem hl)
      rw [HLR.out] at HRR
      have HG := Lib.hid (HG2.out.trans hst.out.2)
      obtain ⟨A5, c5, hs5⟩ := dv_form htv.dv
      subst hs5
      obtain ⟨m5, hm5⟩ : ∃ m, m = (topD K).toList.length := ⟨_, rfl⟩
      rw [← hm5] at HRR ⊢
      clear hst htv hmem hl hm5
      go_wp2_with fail
      refine HRR.out.mono ?_
      rintro e w6 ⟨v6, rfl, ho6, g6⟩
      have HO6 := Lib.hid ho6
      obtain ⟨A6, c6, hs6, -, -⟩ := own_form ho6
      subst hs6
      obtain ⟨m6, hm6⟩ : ∃ m, m = (lastL D).length := ⟨_, rfl⟩
      rw [← hm6] at HO6 ⊢
      clear ho6 hm6
      go_wp2_with fail
      go_ret
      exact ⟨_, rfl, HO6.out.le HG.out.size, HG.out.trans g6⟩
end Go.Proofs.YtnjmgknicffcbaaGreatDoor
