/- Walk: marked, the tags behind a deed. Written by wip/tools/genfog.py. -/
import Derived.Test.YtlihcjlonafohaaGreatZf22
namespace Go.Proofs.YtlihcjlonafohaaGreat
open Go.RowKit Go.Joins
set_option linter.unusedSimpArgs false
set_option linter.unusedVariables false

/-- The tags that a deed leaves. -/
def mrk1 (t : TX) (o : TO) (g : TG) (clears : Int) (L : List TG) : List TG := if o.kind = clears then L.filter (fun x => !clrG t o g x) else L
/-- The tags behind a deed. -/
def mrkL (t : TX) (o : TO) (g : TG) (adds clears : Int) (L : List TG) : List TG :=
  if o.kind = adds then (mrk1 t o g clears L).insertIdx (gckN (fun x => geG x g) (mrk1 t o g clears L)) g else mrk1 t o g clears L
def RetMk (M : List TG) (B : Nat) (v : Value) (w : World) (e : Ending) (w' : World) : Prop :=
  ∃ v', e = .returned v' ∧ GOw w' B v' M ∧ (v'.ownBlock = v.ownBlock ∨ ∃ g, v'.ownBlock = some g ∧ w.heap.size ≤ g) ∧ Kp v.ownBlock w w'
theorem own_oneT (w : World) (x : TG) : (w.alloc (.cells (tgv x) 37)).ownsRow w.heap.size 37 4 (.slice (some ⟨w.heap.size, 0, none⟩) 1 1) 1 (gcell x) :=
  ⟨gcell_len x, .inr ⟨w.heap.size, 1, tgv x, rfl, Nat.le_refl _, heap_alloc _ _ _, Nat.le_refl _, by unfold maxLen; omega, rfl, rfl⟩⟩
theorem gckN_le (p : TG → Bool) (L : List TG) : gckN p L ≤ L.length := List.findIdx_le_length
set_option maxRecDepth 100000 in
set_option maxHeartbeats 4000000 in
theorem marked_any (t : TX) (n c : Nat) (A : Option Addr) (o : TO) (g : TG) (v : Value) (L : List TG) (B : Nat) (adds clears : Int) (w : World) (hv : GOw w B v L) (hB : B ≤ w.heap.size) (hlen : (L.length + 1) * 40 ≤ 140737488355328) :
    Calls Tryz.prog 94 #[.agg (decs t (.slice A n c) o g), v, .int .i64 adds, .int .i64 clears] w fun e w' => RetMk (mrkL t o g adds clears L) B v w e w' := by
  obtain ⟨W, hW, hg, hb⟩ := fdbox w t (.slice A n c) o g
  obtain ⟨P, hP⟩ : ∃ P, P = w.heap.size := ⟨_, rfl⟩
  rw [← hP] at hb
  have hne : v.ownBlock ≠ some P := own_ne_obj (hv.gr hg) hb (by decide)
  have HNE := Lib.hid hne
  obtain ⟨Av, cv, hvf, hnc, hc63⟩ := own_form hv.row
  have HV := Lib.hid (hv.gr hg)
  have HB := Lib.hid hb
  have HG := Lib.hid hg
  have HBW : Hid (B ≤ w.heap.size) := Lib.hid hB
  have HLEN := Lib.hid hlen
  have HPR : Hid (PrG B (.agg (decs t (.slice A n c) o g)) (fun x => clrG t o g x) (fun _ => True) L) := Lib.hid ⟨fun _ _ _ _ _ _ => trivial, fun _ _ _ _ => trivial, fun d _ w1 _ => clears_any t n c A o g d w1⟩
  obtain ⟨p0, -⟩ := hb.op
  have hld : W.heap[P]? = some (.cells (decs t (.slice A n c) o g) 94 (0, 0)) := hb
  obtain ⟨ln, hln⟩ : ∃ m, m = L.length := ⟨_, rfl⟩
  rw [← hln] at hvf hnc
  have HLN := Lib.hid hln
  subst hvf
  clear hv hB hlen hg hb hne hln
  obtain ⟨k, hk⟩ : ∃ k, k = o.kind := ⟨_, rfl⟩
  rw [← hk] at p0
  have HK := Lib.hid hk
  clear hk
  by_cases hcl : k = clears
  · have HM : Hid (mrk1 t o g clears L = L.filter fun x => !clrG t o g x) := Lib.hid (by unfold mrk1; rw [← HK.out, if_pos hcl])
    have HDL := Lib.hid (delG_any (.slice Av ln cv) L B _ (fun x => clrG t o g x) (fun _ => True) W HV.out HPR.out trivial)
    subst hcl
    go_enter Tryz.func94, Tryz.ntmps94
    go_upto_region 1 with (fail)
    change Code.wp Tryz.prog _ _ _ (w.alloc (.cells (decs t (.slice A n c) o g) 94))
    rw [← hW, ← hP]
    clear hW hP
    go_wp2_with (refine wpList_load_row rfl 94 (.tmp 4) rfl P rfl 94 (decs t (.slice A n c) o g) (0, 0) _ hld Tryz.underlying94 rfl (by kernel_rfl) ?_)
    refine HDL.out.mono ?_
    rintro e w2 ⟨v2, rfl, hrow, hob, hkp⟩
    have hrow : GOw w2 B v2 (L.filter fun x => !clrG t o g x) := hrow
    rw [← HM.out] at hrow
    have HR2 := Lib.hid hrow
    have HOB := Lib.hid hob
    have HKP := Lib.hid ((Kp.of_gr HG.out).trans hkp)
    have hb2 : DBox w2 P t (.slice A n c) o g := kp_obj hkp HB.out HNE.out
    have HL1 : Hid ((mrk1 t o g k L).length ≤ L.length) := Lib.hid (by rw [HM.out]; exact List.length_filter_le _ _)
    obtain ⟨A2, c2, hv2, -, -⟩ := own_form hrow.row
    obtain ⟨m1, hm1⟩ : ∃ m, m = (mrk1 t o g k L).length := ⟨_, rfl⟩
    rw [← hm1] at hv2
    have HM1 := Lib.hid hm1
    subst hv2
    clear hrow hob hkp p0 hld hm1
    obtain ⟨M1, hM1⟩ : ∃ M, M = mrk1 t o g k L := ⟨_, rfl⟩
    rw [← hM1] at HR2 HL1 HM1
    have HD : Hid (mrkL t o g adds k L = if k = adds then M1.insertIdx (gckN (fun x => geG x g) M1) g else M1) := Lib.hid (by rw [hM1, HK.out]; rfl)
    have HB2 := Lib.hid hb2
    obtain ⟨p0, -⟩ := hb2.op
    rw [← HK.out] at p0
    clear hb2 hM1
    have hm63 : m1 ≤ 9223372036854775807 := by have := HLEN.out; have := HL1.out; have := HM1.out; omega
    by_cases had : k = adds
    case neg =>
      have b2 : (k == adds) = false := beq_eq_false_iff_ne.2 had
      have b3 : ¬ k = adds := had
      have HE : Hid (mrkL t o g adds k L = M1) := Lib.hid (by rw [HD.out, if_neg had])
      go_wp2_with fail
      go_ret
      exact ⟨_, rfl, by rw [HE.out]; exact HR2.out, .inl HOB.out, HKP.out⟩
    have HE : Hid (mrkL t o g adds k L = M1.insertIdx (gckN (fun x => geG x g) M1) g) := Lib.hid (by rw [HD.out, if_pos had])
    have HIX := Lib.hid (indexM_any (.slice A2 m1 c2) M1 B P (fun x => geG x g) (fun w => DBox w P t (.slice A n c) o g) w2 HR2.out ⟨fun _ _ h g => h.gr g, fun d _ w1 h => mk1_any P t _ o g d w1 h⟩ HB2.out)
    subst had
    go_wp2_with fail
    refine HIX.out.mono ?_
    rintro e w3 ⟨rfl, g3⟩
    obtain ⟨i, hi⟩ : ∃ i, i = gckN (fun x => geG x g) M1 := ⟨_, rfl⟩
    have hile : i ≤ M1.length := by rw [hi]; exact gckN_le _ _
    rw [← hi] at HE
    obtain ⟨W4, hW4⟩ : ∃ W, W = w3.alloc (.cells (tgv g) 37) := ⟨_, rfl⟩
    have hg4 : Gr w3 W4 := by rw [hW4]; exact (Gr.refl _).alloc _
    have hbw : B ≤ W4.heap.size := by have h1 := HKP.out.size; have h2 := g3.size; have h3 := hg4.size; have h4 := HBW.out; omega
    have hrow4 : GOw W4 B (.slice A2 m1 c2) M1 := (HR2.out.gr g3).gr hg4
    have hone : W4.ownsRow w3.heap.size 37 4 (.slice (some ⟨w3.heap.size, 0, none⟩) 1 1) 1 (gcell g) := by rw [hW4]; exact own_oneT w3 g
    have hneb : Value.ownBlock (.slice A2 m1 c2) ≠ some w3.heap.size := fun e => by have := (World.ownsRow.lt (HR2.out.gr g3) w3.heap.size e).2; omega
    have HIN := Lib.hid (insert_anyT (.slice A2 m1 c2) M1 B i w3.heap.size w3.heap.size g W4 hrow4 hbw hile (by have := HLEN.out; have := HL1.out; omega) hneb hone)
    have HK4 : Hid (Kp (Value.ownBlock (.slice Av ln cv)) w W4) := Lib.hid ((HKP.out.trans (Kp.of_gr g3)).trans (Kp.of_gr hg4))
    have HS4 : Hid (w.heap.size ≤ W4.heap.size) := Lib.hid HK4.out.size
    obtain ⟨q0, q1, q2, q3⟩ := (HB2.out.gr g3).tg
    have HII := Lib.hid hi
    have HLE := Lib.hid hile
    obtain ⟨bs, hbs⟩ : ∃ b, b = w3.heap.size := ⟨_, rfl⟩
    rw [← hbs] at HIN
    have fin : ∀ e w', RetInsT M1 B i g (.slice A2 m1 c2) W4 e w' → RetMk (mrkL t o g k k L) B (.slice Av ln cv) w e w' := fun e w' ⟨v', h1, h2, h3, h4⟩ => by
      refine ⟨v', h1, by rw [HE.out]; exact h2, ?_, HK4.out.trans (by rw [← HOB.out]; exact h4)⟩
      rcases h3 with h3 | ⟨x, h3, h5⟩
      · exact .inl (by rw [h3, HOB.out])
      · exact .inr ⟨x, h3, Nat.le_trans HS4.out h5⟩
    have FIN := Lib.hid fin
    clear hi hile hg4 hbw hrow4 hone hneb g3 fin p0
    by_cases hlt : i < m1
    · have hlt2 : gckN (fun x => geG x g) M1 < M1.length := by rw [← HII.out, ← HM1.out]; exact hlt
      have hgi : gckI (fun x => geG x g) M1 = (i : Int) := by unfold gckI; rw [if_pos hlt2, ← HII.out]
      rw [hgi]
      have hi0 : ¬ (i : Int) < 0 := by omega
      have hi1 : (0 : Int) ≤ (i : Int) := by omega
      clear hlt2 hgi
      go_upto_region 8 with (fail)
      go_wp2_with fail
      rw [← hbs, ← hW4]
      refine HIN.out.mono ?_
      rintro e w5 hh
      obtain ⟨v', rfl, h2, h3, h4⟩ := hh
      have HH := Lib.hid (And.intro h2 (And.intro h3 h4))
      clear h2 h3 h4
      go_wp2_with fail
      go_ret
      exact FIN.out _ _ ⟨v', rfl, HH.out.1, HH.out.2.1, HH.out.2.2⟩
    · have hge : ¬ gckN (fun x => geG x g) M1 < M1.length := by rw [← HII.out, ← HM1.out]; exact hlt
      have hgi : gckI (fun x => geG x g) M1 = -1 := by unfold gckI; rw [if_neg hge]
      rw [hgi]
      obtain rfl : i = m1 := by have := HLE.out; have := HM1.out; omega
      clear hge hgi
      go_upto_region 8 with (fail)
      go_wp2_with fail
      rw [← hbs, ← hW4]
      refine HIN.out.mono ?_
      rintro e w5 hh
      obtain ⟨v', rfl, h2, h3, h4⟩ := hh
      have HH := Lib.hid (And.intro h2 (And.intro h3 h4))
      clear h2 h3 h4
      go_wp2_with fail
      go_ret
      exact FIN.out _ _ ⟨v', rfl, HH.out.1, HH.out.2.1, HH.out.2.2⟩
  have HM : Hid (mrk1 t o g clears L = L) := Lib.hid (by unfold mrk1; rw [← HK.out, if_neg hcl])
  have b1 : (k == clears) = false := beq_eq_false_iff_ne.2 hcl
  go_enter Tryz.func94, Tryz.ntmps94
  go_upto_region 1 with (fail)
  change Code.wp Tryz.prog _ _ _ (w.alloc (.cells (decs t (.slice A n c) o g) 94))
  rw [← hW, ← hP]
  clear hW hP
  go_upto_region 3 with (fail)
  have HR2 : Hid (GOw W B (.slice Av ln cv) (mrk1 t o g clears L)) := Lib.hid (by rw [HM.out]; exact HV.out)
  have HKP : Hid (Kp (Value.slice Av ln cv).ownBlock w W) := Lib.hid (Kp.of_gr HG.out)
  have hb2 : DBox W P t (.slice A n c) o g := HB.out
  have HL1 : Hid ((mrk1 t o g clears L).length ≤ L.length) := Lib.hid (by rw [HM.out]; exact Nat.le_refl _)
  have HM1 : Hid (ln = (mrk1 t o g clears L).length) := Lib.hid (by rw [HM.out]; exact HLN.out)
  clear p0 hld
  obtain ⟨M1, hM1⟩ : ∃ M, M = mrk1 t o g clears L := ⟨_, rfl⟩
  rw [← hM1] at HR2 HL1 HM1
  have HD : Hid (mrkL t o g adds clears L = if k = adds then M1.insertIdx (gckN (fun x => geG x g) M1) g else M1) := Lib.hid (by rw [hM1, HK.out]; rfl)
  have HB2 := Lib.hid hb2
  obtain ⟨p0, -⟩ := hb2.op
  rw [← HK.out] at p0
  clear hb2 hM1
  have hm63 : ln ≤ 9223372036854775807 := by have := HLEN.out; have := HL1.out; have := HM1.out; omega
  by_cases had : k = adds
  case neg =>
    have b2 : (k == adds) = false := beq_eq_false_iff_ne.2 had
    have b3 : ¬ k = adds := had
    have HE : Hid (mrkL t o g adds clears L = M1) := Lib.hid (by rw [HD.out, if_neg had])
    go_wp2_with fail
    go_ret
    exact ⟨_, rfl, by rw [HE.out]; exact HR2.out, .inl rfl, HKP.out⟩
  have HE : Hid (mrkL t o g adds clears L = M1.insertIdx (gckN (fun x => geG x g) M1) g) := Lib.hid (by rw [HD.out, if_pos had])
  have HIX := Lib.hid (indexM_any (.slice Av ln cv) M1 B P (fun x => geG x g) (fun w => DBox w P t (.slice A n c) o g) W HR2.out ⟨fun _ _ h g => h.gr g, fun d _ w1 h => mk1_any P t _ o g d w1 h⟩ HB2.out)
  subst had
  go_wp2_with fail
  refine HIX.out.mono ?_
  rintro e w3 ⟨rfl, g3⟩
  obtain ⟨i, hi⟩ : ∃ i, i = gckN (fun x => geG x g) M1 := ⟨_, rfl⟩
  have hile : i ≤ M1.length := by rw [hi]; exact gckN_le _ _
  rw [← hi] at HE
  obtain ⟨W4, hW4⟩ : ∃ W, W = w3.alloc (.cells (tgv g) 37) := ⟨_, rfl⟩
  have hg4 : Gr w3 W4 := by rw [hW4]; exact (Gr.refl _).alloc _
  have hbw : B ≤ W4.heap.size := by have h1 := HKP.out.size; have h2 := g3.size; have h3 := hg4.size; have h4 := HBW.out; omega
  have hrow4 : GOw W4 B (.slice Av ln cv) M1 := (HR2.out.gr g3).gr hg4
  have hone : W4.ownsRow w3.heap.size 37 4 (.slice (some ⟨w3.heap.size, 0, none⟩) 1 1) 1 (gcell g) := by rw [hW4]; exact own_oneT w3 g
  have hneb : Value.ownBlock (.slice Av ln cv) ≠ some w3.heap.size := fun e => by have := (World.ownsRow.lt (HR2.out.gr g3) w3.heap.size e).2; omega
  have HIN := Lib.hid (insert_anyT (.slice Av ln cv) M1 B i w3.heap.size w3.heap.size g W4 hrow4 hbw hile (by have := HLEN.out; have := HL1.out; omega) hneb hone)
  have HK4 : Hid (Kp (Value.ownBlock (.slice Av ln cv)) w W4) := Lib.hid ((HKP.out.trans (Kp.of_gr g3)).trans (Kp.of_gr hg4))
  have HS4 : Hid (w.heap.size ≤ W4.heap.size) := Lib.hid HK4.out.size
  obtain ⟨q0, q1, q2, q3⟩ := (HB2.out.gr g3).tg
  have HII := Lib.hid hi
  have HLE := Lib.hid hile
  obtain ⟨bs, hbs⟩ : ∃ b, b = w3.heap.size := ⟨_, rfl⟩
  rw [← hbs] at HIN
  have fin : ∀ e w', RetInsT M1 B i g (.slice Av ln cv) W4 e w' → RetMk (mrkL t o g k clears L) B (.slice Av ln cv) w e w' := fun e w' ⟨v', h1, h2, h3, h4⟩ => by
    refine ⟨v', h1, by rw [HE.out]; exact h2, ?_, HK4.out.trans h4⟩
    rcases h3 with h3 | ⟨x, h3, h5⟩
    · exact .inl (by rw [h3])
    · exact .inr ⟨x, h3, Nat.le_trans HS4.out h5⟩
  have FIN := Lib.hid fin
  clear hi hile hg4 hbw hrow4 hone hneb g3 fin p0
  by_cases hlt : i < ln
  · have hlt2 : gckN (fun x => geG x g) M1 < M1.length := by rw [← HII.out, ← HM1.out]; exact hlt
    have hgi : gckI (fun x => geG x g) M1 = (i : Int) := by unfold gckI; rw [if_pos hlt2, ← HII.out]
    rw [hgi]
    have hi0 : ¬ (i : Int) < 0 := by omega
    have hi1 : (0 : Int) ≤ (i : Int) := by omega
    clear hlt2 hgi
    go_upto_region 8 with (fail)
    go_wp2_with fail
    rw [← hbs, ← hW4]
    refine HIN.out.mono ?_
    rintro e w5 hh
    obtain ⟨v', rfl, h2, h3, h4⟩ := hh
    have HH := Lib.hid (And.intro h2 (And.intro h3 h4))
    clear h2 h3 h4
    go_wp2_with fail
    go_ret
    exact FIN.out _ _ ⟨v', rfl, HH.out.1, HH.out.2.1, HH.out.2.2⟩
  · have hge : ¬ gckN (fun x => geG x g) M1 < M1.length := by rw [← HII.out, ← HM1.out]; exact hlt
    have hgi : gckI (fun x => geG x g) M1 = -1 := by unfold gckI; rw [if_neg hge]
    rw [hgi]
    obtain rfl : i = ln := by have := HLE.out; have := HM1.out; omega
    clear hge hgi
    go_upto_region 8 with (fail)
    go_wp2_with fail
    rw [← hbs, ← hW4]
    refine HIN.out.mono ?_
    rintro e w5 hh
    obtain ⟨v', rfl, h2, h3, h4⟩ := hh
    have HH := Lib.hid (And.intro h2 (And.intro h3 h4))
    clear h2 h3 h4
    go_wp2_with fail
    go_ret
    exact FIN.out _ _ ⟨v', rfl, HH.out.1, HH.out.2.1, HH.out.2.2⟩
end Go.Proofs.YtlihcjlonafohaaGreat
