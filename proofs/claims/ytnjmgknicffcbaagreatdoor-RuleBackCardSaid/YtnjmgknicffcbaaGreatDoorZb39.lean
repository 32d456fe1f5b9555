/- Walks: value's on. Walks: value's firm. -/
import Derived.Test.YtnjmgknicffcbaaGreatDoorZb38
import Derived.Test.YtnjmgknicffcbaaGreatDoorZb28
import Derived.Test.YtnjmgknicffcbaaGreatDoorZb30
namespace Go.Proofs.YtnjmgknicffcbaaGreatDoor
open Go.RowKit Go.Joins
set_option linter.unusedSimpArgs false
set_option linter.unusedVariables false

/-- The deeds of a kind that none of the kind sk about the same sees. -/
def unsL (kd sk : Int) (D : List DD) : List DD := (kindF kd D).filter fun d => !unsD (seenF (kindF sk D) (kindF sk D).length) sk d
def onB (start : Int) (D : List DD) : Bool := decide (0 < (unsL 7 8 D).length) || (decide (¬ start = 0) && decide ((kindF 8 D).length = 0))
set_option maxRecDepth 100000 in
set_option maxHeartbeats 2000000 in
theorem on_any (start : Int) (v : Value) (D : List DD) (w : World) (h : DV w v D) (hx : DXs w D) (hlen : D.length ≤ 65536) (hel : ∀ d ∈ D, (aboutT d.op).size ≤ maxLen) :
    Calls Tryz.prog 186 #[.int .i64 start, v] w fun e w' => e = .returned (.bool (onB start D)) ∧ Gr w w' := by
  have HU := Lib.hid (unseen_any v D 7 8 w h hx hlen hel)
  have HO := Lib.hid (fun w1 (g : Gr w w1) => ofKind_any v D 8 w1 (h.gr g) (hx.gr g) hlen)
  obtain ⟨A, c, hvf⟩ := dv_form h
  subst hvf
  obtain ⟨n, hn⟩ : ∃ n, n = D.length := ⟨_, rfl⟩
  rw [← hn] at HU HO ⊢
  obtain ⟨r, hr⟩ : ∃ r, r = onB start D := ⟨_, rfl⟩
  rw [← hr]
  have HR := Lib.hid hr
  clear h hx hlen hel hn hr
  go_enter Tryz.func186, Tryz.ntmps186
  go_wp2_with fail
  refine HU.out.mono ?_
  rintro e w1 ⟨s1, rfl, hd1, g1⟩
  have hd1 : DV w1 s1 (unsL 7 8 D) := hd1
  obtain ⟨A1, c1, hs1⟩ := dv_form hd1
  subst hs1
  have HG1 := Lib.hid g1
  obtain ⟨m, hm⟩ : ∃ m, m = (unsL 7 8 D).length := ⟨_, rfl⟩
  rw [← hm]
  have HM := Lib.hid hm
  clear hd1 g1 hm
  by_cases hmp : 0 < m
  · have h1 : (0 : Int) < (m : Int) := by omega
    have h2 : decide ((0 : Int) < (m : Int)) = true := decide_eq_true h1
    have HE : Hid (r = true) := Lib.hid (by rw [HR.out]; unfold onB; rw [← HM.out, decide_eq_true hmp]; rfl)
    go_wp2_with fail
    go_ret
    exact ⟨by rw [HE.out]; rfl, HG1.out⟩
  · have h1 : ¬ (0 : Int) < (m : Int) := by omega
    have h2 : decide ((0 : Int) < (m : Int)) = false := decide_eq_false h1
    by_cases hst : start = 0
    · have HE : Hid (r = false) := Lib.hid (by rw [HR.out]; unfold onB; rw [← HM.out, decide_eq_false hmp, decide_eq_false (fun c => c hst)]; rfl)
      subst hst
      go_wp2_with fail
      go_ret
      exact ⟨by rw [HE.out]; rfl, HG1.out⟩
    · have h3 : decide (start = 0) = false := decide_eq_false hst
      have h4 : (start == 0) = false := beq_eq_false_iff_ne.2 hst
      have h5 : decide (¬ start = 0) = true := decide_eq_true hst
      go_wp2_with fail
      refine (HO.out _ HG1.out).mono ?_
      rintro e w2 ⟨s2, rfl, ho2, g2⟩
      obtain ⟨A2, c2, hs2⟩ := dv_form ho2.dv
      subst hs2
      have HG2 := Lib.hid (HG1.out.trans g2)
      obtain ⟨k, hk⟩ : ∃ k, k = (kindF 8 D).length := ⟨_, rfl⟩
      rw [← hk]
      have HE : Hid (r = decide (k = 0)) := Lib.hid (by rw [HR.out]; unfold onB; rw [← HM.out, decide_eq_false hmp, h5, ← hk]; rfl)
      clear ho2 g2 hk
      by_cases hk0 : k = 0
      · subst hk0
        have HE2 : Hid (r = true) := Lib.hid (by rw [HE.out]; exact decide_eq_true rfl)
        clear HE
        go_wp2_with fail
        go_ret
        exact ⟨by rw [HE2.out]; simp [hst], HG2.out⟩
      · have h6 : ¬ (k : Int) = 0 := by omega
        have h7 : decide ((k : Int) = 0) = false := decide_eq_false h6
        have HE2 : Hid (r = false) := Lib.hid (by rw [HE.out]; exact decide_eq_false hk0)
        clear HE
        go_wp2_with fail
        go_ret
        exact ⟨by rw [HE2.out]; simp [hst] <;> exact hk0, HG2.out⟩
end Go.Proofs.YtnjmgknicffcbaaGreatDoor
namespace Go.Proofs.YtnjmgknicffcbaaGreatDoor
open Go.RowKit Go.Joins
set_option linter.unusedSimpArgs false
set_option linter.unusedVariables false

set_option maxRecDepth 100000 in
theorem firm1_any (s : ByteArray) (a : Nat) (v : Value) (G : List ByteArray) (w : World) (ha : w.cell? ⟨a, 0, none⟩ = some v) (hv : SV w v G) (hr : RisingS G) (hlen : G.length < 4611686018427387904) :
    Calls Tryz.prog 209 #[.string s, .pointer (some ⟨a, 0, none⟩)] w fun e w' => e = .returned (.bool (memS G s)) ∧ Gr w w' := by
  have HB := Lib.hid (binS_any v G s w hv hr hlen)
  obtain ⟨A, c, hva, -⟩ := hv
  subst hva
  obtain ⟨n, hn⟩ : ∃ n, n = G.length := ⟨_, rfl⟩
  rw [← hn] at HB ha
  clear hr hlen hn
  go_enter Tryz.func209, Tryz.ntmps209
  go_wp2_with fail
  refine HB.out.mono ?_
  rintro e w1 ⟨i, rfl, g1⟩
  go_wp2_with fail
  go_ret
  exact ⟨rfl, g1⟩
/-- A Firm key's elements: those added, without those of a Remove that no Add of them sees. -/
def firmL (D : List DD) : List ByteArray := (riseT (elemsD (kindF 4 D))).filter fun s => !memS (riseT (elemsD (unsL 5 4 D))) s
theorem egFirm : ∀ args w, (callFunc 209 args).run Tryz.prog w = .ok (.enter 209 args) w := fun args w => by kernel_rfl
theorem kindF_le (k : Int) (D : List DD) : (kindF k D).length ≤ D.length := by
  have := kindF_len k D D.length
  rw [List.take_length] at this
  exact this
theorem unsL_le (a b : Int) (D : List DD) : (unsL a b D).length ≤ D.length := Nat.le_trans (List.length_filter_le _ _) (kindF_le a D)
theorem unsL_mem {a b : Int} {D : List DD} {d : DD} (h : d ∈ unsL a b D) : d ∈ D := kindF_mem (List.mem_filter.1 h).1
theorem Kp.cellNe {g : Nat} {w w' : World} (k : Kp (some g) w w') {p : Addr} {v : Value} (h : w.cell? p = some v) (hne : p.block ≠ g) : w'.cell? p = some v := by
  have hlt : p.block < w.heap.size := by
    rcases Nat.lt_or_ge p.block w.heap.size with c | c
    · exact c
    · have hn : w.heap[p.block]? = none := by simp; omega
      unfold World.cell? at h
      rw [hn] at h
      simp at h
  have hb := k.block p.block hlt (fun e => hne (Option.some.inj e))
  unfold World.cell? at h ⊢
  rw [hb]
  exact h
set_option maxRecDepth 100000 in
set_option maxHeartbeats 4000000 in
theorem firmV_any (v : Value) (D : List DD) (w : World) (h : DV w v D) (hx : DXs w D) (hlen : D.length ≤ 65536) (hs : ∀ d ∈ D, d.op.elem.size ≤ 281474976710656) :
    Calls Tryz.prog 184 #[v] w fun e w' => RetStrsV (firmL D) w e w' := by
  have hel : ∀ d ∈ D, (aboutT d.op).size ≤ maxLen := fun d hd => by
    have := hs d hd
    unfold aboutT
    split
    · exact Nat.zero_le _
    · unfold maxLen; omega
  have HU := Lib.hid (unseen_any v D 5 4 w h hx hlen hel)
  have HK := Lib.hid (fun w1 (g : Gr w w1) => ofKind_any v D 4 w1 (h.gr g) (hx.gr g) hlen)
  have HR := Lib.hid (fun (v1 : Value) (D1 : List DD) (w1 : World) (h1 : DV w1 v1 D1) (g : Gr w w1) (hsub : ∀ d ∈ D1, d ∈ D) (hl : D1.length ≤ 65536) => risingV_any v1 D1 w1 h1 (fun d hd => (hx d (hsub d hd)).gr g) hl (fun d hd => hs d (hsub d hd)))
  have HLU : Hid ((unsL 5 4 D).length ≤ 65536 ∧ ∀ d ∈ unsL 5 4 D, d ∈ D) := Lib.hid ⟨Nat.le_trans (unsL_le 5 4 D) hlen, fun d hd => unsL_mem hd⟩
  have HLK : Hid ((kindF 4 D).length ≤ 65536 ∧ ∀ d ∈ kindF 4 D, d ∈ D) := Lib.hid ⟨Nat.le_trans (kindF_le 4 D) hlen, fun d hd => kindF_mem hd⟩
  obtain ⟨A, c, hvf⟩ := dv_form h
  subst hvf
  obtain ⟨n, hn⟩ : ∃ n, n = D.length := ⟨_, rfl⟩
  rw [← hn] at HU HK ⊢
  clear h hx hlen hs hel hn
  go_enter Tryz.func184, Tryz.ntmps184
  go_wp2_with fail
  refine HU.out.mono ?_
  rintro e w1 ⟨s1, rfl, hd1, g1⟩
  have hd1 : DV w1 s1 (unsL 5 4 D) := hd1
  have HR1 := Lib.hid (HR.out s1 _ w1 hd1 g1 HLU.out.2 HLU.out.1)
  obtain ⟨A1, c1, hs1⟩ := dv_form hd1
  subst hs1
  have HG1 := Lib.hid g1
  obtain ⟨m1, hm1⟩ : ∃ m, m = (unsL 5 4 D).length := ⟨_, rfl⟩
  rw [← hm1] at HR1 ⊢
  clear hd1 g1 hm1
  go_wp2_with fail
  refine HR1.out.mono ?_
  rintro e w2 ⟨s2, rfl, ho2, g2⟩
  obtain ⟨G, hG⟩ : ∃ G, G = riseT (elemsD (unsL 5 4 D)) := ⟨_, rfl⟩
  rw [← hG] at ho2
  have HGG := Lib.hid hG
  have hrG : RisingS G := by rw [hG]; exact riseT_rising _
  have hlG : G.length ≤ 65536 := by
    rw [hG]
    have h1 := riseT_len (elemsD (unsL 5 4 D))
    rw [elemsD_len] at h1
    have := HLU.out.1
    omega
  have HRG := Lib.hid (And.intro hrG hlG)
  have HO2 := Lib.hid ho2
  obtain ⟨A2, c2, hs2, -, -⟩ := own_form ho2
  subst hs2
  obtain ⟨m2, hm2⟩ : ∃ m, m = G.length := ⟨_, rfl⟩
  rw [← hm2] at HO2 ⊢
  obtain ⟨W, hW, hg, hc, hsz⟩ : ∃ W, W = w2.alloc (.cells #[.slice A2 m2 c2] 93) ∧ Gr w2 W ∧ W.cell? ⟨w2.heap.size, 0, none⟩ = some (.slice A2 m2 c2) ∧ W.heap.size = w2.heap.size + 1 := by
    refine ⟨_, rfl, (Gr.refl _).alloc _, ?_, ?_⟩
    · rw [cell_of_block (heap_alloc w2 #[.slice A2 m2 c2] 93)]
      rfl
    · simp
  have HG2 := Lib.hid ((HG1.out.trans g2).trans hg)
  have HOW : Hid (SO W w1.heap.size (.slice A2 m2 c2) G) := Lib.hid (HO2.out.gr hg)
  have HBL : Hid (∀ b, (Value.slice A2 m2 c2).ownBlock = some b → b < w2.heap.size) := Lib.hid (fun b hb => (World.ownsRow.lt (h := HO2.out) b hb).2)
  have HC := Lib.hid hc
  have HSZ := Lib.hid hsz
  clear ho2 g2 hG hrG hlG hm2 hg hc hsz
  go_upto_region 2 with (fail)
  rw [← hW]
  clear hW
  go_wp2_with fail
  refine (HK.out _ HG2.out).mono ?_
  rintro e w4 ⟨s4, rfl, ho4, g4⟩
  have HR4 := Lib.hid (HR.out s4 _ w4 ho4.dv (HG2.out.trans g4) HLK.out.2 HLK.out.1)
  obtain ⟨A4, c4, hs4⟩ := slice_dd ho4
  subst hs4
  have HG4 := Lib.hid g4
  obtain ⟨m4, hm4⟩ : ∃ m, m = (kindF 4 D).length := ⟨_, rfl⟩
  rw [← hm4] at HR4 ⊢
  clear ho4 g4 hm4
  go_wp2_with fail
  refine HR4.out.mono ?_
  rintro e w5 ⟨s5, rfl, ho5, g5⟩
  obtain ⟨E, hE⟩ : ∃ E, E = riseT (elemsD (kindF 4 D)) := ⟨_, rfl⟩
  rw [← hE] at ho5
  have HP : Hid (PrS 209 w2.heap.size w4.heap.size (memS G) (fun x => x.cell? ⟨w2.heap.size, 0, none⟩ = some (.slice A2 m2 c2) ∧ SO x w1.heap.size (.slice A2 m2 c2) G) E) := Lib.hid (by
    refine ⟨fun x x' g hc hk hg => ?_, fun x x' hc hk => ⟨hk.cell hc.1, hc.2.gr hk⟩, fun s _ x hc => firm1_any s w2.heap.size _ G x hc.1 hc.2.sv HRG.out.1 (by have := HRG.out.2; omega), egFirm⟩
    have h4 := HG4.out.size
    have h5 := HSZ.out
    refine ⟨hk.cellNe hc.1 ?_, World.ownsRow.kept hc.2 hk ?_⟩
    · show w2.heap.size ≠ g
      omega
    · cases hb : (Value.slice A2 m2 c2).ownBlock with
      | none => exact .inl rfl
      | some b =>
        refine .inr fun e => ?_
        have := HBL.out b hb
        injection e with e
        omega)
  have HDL := Lib.hid (delS_any s5 E 209 w2.heap.size w4.heap.size (memS G) _ w5 ho5 HP.out ⟨g5.cell (HG4.out.cell HC.out), (HOW.out.gr HG4.out).gr g5⟩)
  have HBS : Hid (∀ b, s5.ownBlock = some b → w.heap.size ≤ b) := Lib.hid (fun b hb => by
    have h1 := (World.ownsRow.lt (h := ho5) b hb).1
    have h2 := HG2.out.size
    have h3 := HG4.out.size
    omega)
  have HG5 := Lib.hid ((HG2.out.trans HG4.out).trans g5)
  obtain ⟨A5, c5, hs5, -, -⟩ := own_form ho5
  subst hs5
  have HEE : Hid (E.filter (fun s => !memS G s) = firmL D) := Lib.hid (by rw [hE, HGG.out]; rfl)
  obtain ⟨m5, hm5⟩ : ∃ m, m = E.length := ⟨_, rfl⟩
  rw [← hm5] at HDL HBS ⊢
  clear ho5 g5 hE hm5
  go_wp2_with fail
  refine HDL.out.mono ?_
  rintro e w6 ⟨v6, rfl, ho6, hb6, k6⟩
  rw [HEE.out] at ho6
  have HO6 := Lib.hid ho6
  have HG6 := Lib.hid (Kp.gr_of HG5.out k6 (fun q hq => HBS.out q hq))
  obtain ⟨A6, c6, hs6, -, -⟩ := own_form ho6
  subst hs6
  obtain ⟨m6, hm6⟩ : ∃ m, m = (firmL D).length := ⟨_, rfl⟩
  rw [← hm6] at HO6 ⊢
  have HSZ6 : Hid (w.heap.size ≤ w4.heap.size) := Lib.hid (HG2.out.trans HG4.out).size
  clear ho6 hb6 k6 hm6
  go_wp2_with fail
  go_ret
  exact ⟨_, rfl, HO6.out.le HSZ6.out, HG6.out⟩
end Go.Proofs.YtnjmgknicffcbaaGreatDoor
