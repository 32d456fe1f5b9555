/- The law ValueCounts. -/
import Derived.Test.YthbkbpodiebhgaaValD
import Derived.Test.YthbkbpodiebhgaaCutJ
import Derived.Test.YthbkbpodiebhgaaCutS
import Derived.Test.YthbkbpodiebhgaaCutZA
namespace Go.Proofs.Ythbkbpodiebhgaa
open Go.RowKit Go.Joins
set_option linter.unusedSimpArgs false
set_option linter.unusedVariables false

/-- What the region of the two calls of Close, each stored over its argument, has left. -/
structure I5 (w : World) (u : Nat → S3) (v x p q : Nat → Nat) (F : Nat → Value) (vals : Vals) (wc : World) : Prop where
  gr : Gr w wc
  lb : LBox wc w.heap.size u
  b6 : VBox wc (w.heap.size + 1) (if (vals 6).isSome then p else v)
  b7 : VBox wc (w.heap.size + 1 + 1) (if (vals 7).isSome then q else x)
  fx : ∀ k, k < 6 → ∀ y, vals k = some y → y = F k
  n2 : vals 1 = none → vals 2 = none
  n6 : vals 2 = none → vals 6 = none
  n5 : vals 4 = none → vals 5 = none
  n7 : vals 5 = none → vals 7 = none
theorem I5.next {w : World} {u : Nat → S3} {v x p q : Nat → Nat} {F : Nat → Value} {vals : Vals} {wc w' : World} (h : I5 w u v x p q F vals wc) (g : Gr wc w') : I5 w u v x p q F vals w' :=
  ⟨h.gr.trans g, h.lb.gr g, h.b6.gr g, h.b7.gr g, h.fx, h.n2, h.n6, h.n5, h.n7⟩
theorem I5.up {w : World} {u : Nat → S3} {v x p q : Nat → Nat} {F : Nat → Value} {vals : Vals} {wc : World} (h : I5 w u v x p q F vals wc) {k : Nat} (hk : k < 6) (hn : vals k = none) (h2 : k = 2 → ∃ y, vals 1 = some y) (h5 : k = 5 → ∃ y, vals 4 = some y) : I5 w u v x p q F (vals.up k (F k)) wc := by
  have e : ∀ j, j ≠ k → vals.up k (F k) j = vals j := fun j hj => Vals.up_ne vals _ hj
  refine ⟨h.gr, h.lb, by rw [e 6 (by omega)]; exact h.b6, by rw [e 7 (by omega)]; exact h.b7, fun j hj y hy => ?_, fun z => ?_, fun z => ?_, fun z => ?_, fun z => ?_⟩
  · by_cases q : j = k
    · subst q
      rw [Vals.up_at] at hy
      exact (Option.some.inj hy).symm
    · rw [e j q] at hy
      exact h.fx j hj y hy
  · by_cases q1 : 1 = k
    · subst q1; rw [Vals.up_at] at z; cases z
    · rw [e 1 q1] at z
      by_cases q2 : 2 = k
      · obtain ⟨y, hy⟩ := h2 q2.symm
        rw [hy] at z; cases z
      · rw [e 2 q2]; exact h.n2 z
  · by_cases q2 : 2 = k
    · subst q2; rw [Vals.up_at] at z; cases z
    · rw [e 2 q2] at z
      rw [e 6 (by omega)]; exact h.n6 z
  · by_cases q1 : 4 = k
    · subst q1; rw [Vals.up_at] at z; cases z
    · rw [e 4 q1] at z
      by_cases q2 : 5 = k
      · obtain ⟨y, hy⟩ := h5 q2.symm
        rw [hy] at z; cases z
      · rw [e 5 q2]; exact h.n5 z
  · by_cases q2 : 5 = k
    · subst q2; rw [Vals.up_at] at z; cases z
    · rw [e 5 q2] at z
      rw [e 7 (by omega)]; exact h.n7 z
theorem I5.put6 {w : World} {u : Nat → S3} {v x p q : Nat → Nat} {F : Nat → Value} {vals : Vals} {wc : World} (h : I5 w u v x p q F vals wc) (h2 : ∃ y, vals 2 = some y) : I5 w u v x p q F (vals.up 6 undef) (putCells wc (w.heap.size + 1) 0 (vcells p).toList) := by
  have e : ∀ j, j ≠ 6 → vals.up 6 undef j = vals j := fun j hj => Vals.up_ne vals _ hj
  obtain ⟨hk, hb⟩ := putV8 h.b6 p
  refine ⟨Gr.putCells (by omega) _ _ h.gr, h.lb.keep (hk _ (by omega)), by rw [Vals.up_at]; exact hb, by rw [e 7 (by omega)]; exact ⟨by rw [hk _ (by omega)]; exact h.b7.box⟩, fun j hj y hy => h.fx j hj y (by rw [← e j (by omega)]; exact hy), fun z => ?_, fun z => ?_, fun z => ?_, fun z => ?_⟩
  · rw [e 1 (by omega)] at z; rw [e 2 (by omega)]; exact h.n2 z
  · rw [e 2 (by omega)] at z
    obtain ⟨y, hy⟩ := h2
    rw [hy] at z; cases z
  · rw [e 4 (by omega)] at z; rw [e 5 (by omega)]; exact h.n5 z
  · rw [e 5 (by omega)] at z; rw [e 7 (by omega)]; exact h.n7 z
theorem I5.put7 {w : World} {u : Nat → S3} {v x p q : Nat → Nat} {F : Nat → Value} {vals : Vals} {wc : World} (h : I5 w u v x p q F vals wc) (h2 : ∃ y, vals 5 = some y) : I5 w u v x p q F (vals.up 7 undef) (putCells wc (w.heap.size + 1 + 1) 0 (vcells q).toList) := by
  have e : ∀ j, j ≠ 7 → vals.up 7 undef j = vals j := fun j hj => Vals.up_ne vals _ hj
  obtain ⟨hk, hb⟩ := putV8 h.b7 q
  refine ⟨Gr.putCells (by omega) _ _ h.gr, h.lb.keep (hk _ (by omega)), by rw [e 6 (by omega)]; exact ⟨by rw [hk _ (by omega)]; exact h.b6.box⟩, by rw [Vals.up_at]; exact hb, fun j hj y hy => h.fx j hj y (by rw [← e j (by omega)]; exact hy), fun z => ?_, fun z => ?_, fun z => ?_, fun z => ?_⟩
  · rw [e 1 (by omega)] at z; rw [e 2 (by omega)]; exact h.n2 z
  · rw [e 2 (by omega)] at z; rw [e 6 (by omega)]; exact h.n6 z
  · rw [e 4 (by omega)] at z; rw [e 5 (by omega)]; exact h.n5 z
  · rw [e 5 (by omega)] at z
    obtain ⟨y, hy⟩ := h2
    rw [hy] at z; cases z
def F5 (u : Nat → S3) (v x p q : Nat → Nat) : Nat → Value
  | 0 => .agg (lcells u)
  | 1 => .agg (vcells v)
  | 2 => .agg (vcells p)
  | 3 => .agg (lcells u)
  | 4 => .agg (vcells x)
  | _ => .agg (vcells q)
def FV (start : Int) (u : Nat → S3) (c : Nat → Nat) (key : ByteArray) (n : Int) : Nat → Option Value
  | 0 => some (.int .i64 start)
  | 1 => some (.agg (lcells u))
  | 3 => some (.agg (vcells c))
  | 4 => some (.string key)
  | 5 => some (.tuple #[.agg (valv n), .int .i64 0])
  | 6 => some (.tuple #[.agg (valv n), .int .i64 0])
  | 7 => some (.agg (valv n))
  | 8 => some (.int .i64 0)
  | 11 => some (.int .i64 0)
  | _ => none
def GV (l : LG) : Nat → Option LG
  | 2 => some l
  | _ => none
def FW (start : Int) (u : Nat → S3) (a b c : Nat → Nat) (key : ByteArray) (n : Int) : Nat → Option Value
  | 0 => some (.int .i64 start)
  | 1 => some (.agg (lcells u))
  | 3 => some (.agg (vcells a))
  | 4 => some (.agg (vcells b))
  | 5 => some (.agg (vcells c))
  | 6 => some (.string key)
  | 7 => some (.tuple #[.agg (valv n), .int .i64 0])
  | 8 => some (.tuple #[.agg (valv n), .int .i64 0])
  | 9 => some (.agg (valv n))
  | 10 => some (.int .i64 0)
  | 13 => some (.int .i64 0)
  | _ => none
theorem wrap_of {n : Int} (h : -9223372036854775808 ≤ n ∧ n ≤ 9223372036854775807) : wrap64 n = n := by
  unfold wrap64
  omega
theorem counts_sum {start : Int} {key : ByteArray} {l : LG} {p q : Nat → Nat} {a b c d : Int} (ha : a = wrap64 (start + netV key l p)) (hb : b = wrap64 (start + netV key l q)) (hc : c = wrap64 (start + netV key l (jn p q))) (hd : d = wrap64 (start + netV key l (mt p q))) : wrap64 (a + b) = wrap64 (c + d) := by
  have h := net_jm key l p q 8
  have h : netV key l (jn p q) + netV key l (mt p q) = netV key l p + netV key l q := h
  subst ha hb hc hd
  unfold wrap64
  omega
set_option maxRecDepth 100000 in
set_option maxHeartbeats 4000000 in
theorem counts_law (u : Nat → S3) (l : LG) (v x : Nat → Nat) (key : ByteArray) (start : Int) (w : World) (h : LV w u l) (hf : FitL l) (hst : wrap64 start = start) :
    Calls Try.prog 6 #[.agg (lcells u), .agg (vcells v), .agg (vcells x), .string key, .int .i64 start] w fun e w' => e = .returned (.bool true) ∧ Gr w w' := by
  obtain ⟨W, hW, hg, hL, hV, hX⟩ := boxesCc u v x w
  have HL := Lib.hid hL
  have HV := Lib.hid hV
  have HX := Lib.hid hX
  have HG := Lib.hid hg
  have HFC := Lib.hid hf.c
  have HFQ := Lib.hid hf.q
  have HCK := Lib.hid (fun w1 (g : Gr w w1) => rcheck9_any u l w1 (h.gr g) hf.q)
  obtain ⟨p, hp⟩ : ∃ y, y = closeV l v := ⟨_, rfl⟩
  obtain ⟨q, hq⟩ : ∃ y, y = closeV l x := ⟨_, rfl⟩
  have HP : Hid (closedP l p) := Lib.hid (by rw [hp]; exact (closeV_is l v).closed)
  have HQ : Hid (closedP l q) := Lib.hid (by rw [hq]; exact (closeV_is l x).closed)
  have HC1 := Lib.hid (fun w1 (g : Gr w w1) => rclose_det u l v w1 (h.gr g))
  have HC2 := Lib.hid (fun w1 (g : Gr w w1) => rclose_det u l x w1 (h.gr g))
  rw [← hp] at HC1
  rw [← hq] at HC2
  have HCP := Lib.hid (fun w1 (g : Gr w w1) => rcopy9_any u l w1 (h.gr g) hf.c)
  obtain ⟨na, hna⟩ : ∃ y, y = wrap64 (start + netV key l p) := ⟨_, rfl⟩
  obtain ⟨nb, hnb⟩ : ∃ y, y = wrap64 (start + netV key l q) := ⟨_, rfl⟩
  obtain ⟨nc, hnc⟩ : ∃ y, y = wrap64 (start + netV key l (jn p q)) := ⟨_, rfl⟩
  obtain ⟨nd, hnd⟩ : ∃ y, y = wrap64 (start + netV key l (mt p q)) := ⟨_, rfl⟩
  have HSUM := Lib.hid (counts_sum hna hnb hnc hnd)
  have HVA := Lib.hid (fun (ok : checkE l = 0) u2 w1 (k : LV w1 u2 l) => value1_any start u2 l p key w1 k hf.q ok HP.out hst)
  have HVB := Lib.hid (fun (ok : checkE l = 0) u2 w1 (k : LV w1 u2 l) => value1_any start u2 l q key w1 k hf.q ok HQ.out hst)
  have HVC := Lib.hid (fun (ok : checkE l = 0) u2 w1 (k : LV w1 u2 l) => value1_any start u2 l (jn p q) key w1 k hf.q ok (closed_jn HP.out HQ.out) hst)
  have HVD := Lib.hid (fun (ok : checkE l = 0) u2 w1 (k : LV w1 u2 l) => value1_any start u2 l (mt p q) key w1 k hf.q ok (closed_mt HP.out HQ.out) hst)
  rw [← hna] at HVA
  rw [← hnb] at HVB
  rw [← hnc] at HVC
  rw [← hnd] at HVD
  have HJN := Lib.hid (fun w1 => rjoin_any p q w1)
  have HMT := Lib.hid (fun w1 => rmeet_any p q w1)
  obtain ⟨cj, hcj⟩ : ∃ y, y = jn p q := ⟨_, rfl⟩
  obtain ⟨cm, hcm⟩ : ∃ y, y = mt p q := ⟨_, rfl⟩
  rw [← hcj] at HVC HJN
  rw [← hcm] at HVD HMT
  clear h hf hL hV hX hg hp hq hna hnb hnc hnd hcj hcm hst
  go_enter Try.func6, Try.ntmps6
  go_upto_region 1 with (fail)
  rw [← hW]
  clear hW
  go_wp2_with fail
  refine (awake10_any W).mono ?_
  rintro e w1 ⟨rfl, g1⟩
  have HG1 := Lib.hid (HG.out.trans g1)
  have HL1 := Lib.hid (HL.out.gr g1)
  have HV1 := Lib.hid (HV.out.gr g1)
  have HX1 := Lib.hid (HX.out.gr g1)
  obtain ⟨l0, l1, l2, l3, l4, l5, l6, l7⟩ := HL1.out.all
  clear g1
  go_wp2_with fail
  refine (HCK.out _ HG1.out).mono ?_
  rintro e w2 ⟨rfl, g2⟩
  have HI2 : Hid (I5 w u v x p q (F5 u v x p q) (fun _ => none) w2.drew) := Lib.hid ⟨(HG1.out.trans g2).drew, (HL1.out.gr g2).gr (Gr.refl _).drew, (HV1.out.gr g2).gr (Gr.refl _).drew, (HX1.out.gr g2).gr (Gr.refl _).drew, fun _ _ _ h => (by cases h), fun _ => rfl, fun _ => rfl, fun _ => rfl, fun _ => rfl⟩
  have HG2 := Lib.hid (HG1.out.trans g2)
  clear g2 l0 l1 l2 l3 l4 l5 l6 l7 HG1 HL1 HV1 HX1 HL HV HX
  obtain ⟨ec, hec⟩ : ∃ x, x = checkE l := ⟨_, rfl⟩
  rw [← hec]
  have HEC := Lib.hid hec
  clear hec
  by_cases he : ec = 0
  case neg =>
    have hne : ¬ ((ec : Int) = 0) := by omega
    go_wp2_with fail
    go_ret
    exact ⟨rfl, HG2.out⟩
  have HOK : Hid (checkE l = 0) := Lib.hid (by rw [← HEC.out, he])
  have HVA := Lib.hid (HVA.out HOK.out)
  have HVB := Lib.hid (HVB.out HOK.out)
  have HVC := Lib.hid (HVC.out HOK.out)
  have HVD := Lib.hid (HVD.out HOK.out)
  have he0 : (ec : Int) = 0 := by omega
  go_upto_region 5 with (fail)
  clear he he0 HEC
  go_cut [10] (fun s10 wx => s10 = .bool false ∧ Hid (LBox wx w.heap.size u ∧ VBox wx (w.heap.size + 1) p ∧ VBox wx (w.heap.size + 1 + 1) q ∧ Gr w wx))
  case first =>
    refine wp_region_noPanic ?_
    refine iRegionA (I5 w u v x p q (F5 u v x p q)) (by kernel_rfl) (by kernel_rfl) HI2.out ?_ ?_
    · intro i o ho vals wc A hI hn hdep hOld hNew
      have hi : i < 8 := (List.getElem?_eq_some_iff.1 ho).1
      have hgc := hI.gr
      obtain ⟨l0, l1, l2, l3, l4, l5, l6, l7⟩ := hI.lb.all
      have e5 : A.tmps[5]?.getD undef = .pointer (some ⟨w.heap.size, 0, none⟩) := slotE (hOld 5 (by kernel_rfl))
      have e6 : A.tmps[6]?.getD undef = .pointer (some ⟨w.heap.size + 1, 0, none⟩) := slotE (hOld 6 (by kernel_rfl))
      have e7 : A.tmps[7]?.getD undef = .pointer (some ⟨w.heap.size + 1 + 1, 0, none⟩) := slotE (hOld 7 (by kernel_rfl))
      obtain rfl | rfl | rfl | rfl | rfl | rfl | rfl | rfl : i = 0 ∨ i = 1 ∨ i = 2 ∨ i = 3 ∨ i = 4 ∨ i = 5 ∨ i = 6 ∨ i = 7 := by omega
      · obtain rfl := Option.some.inj (show some _ = some o from ho)
        refine aVal rfl rfl (v := F5 u v x p q 0) (w' := wc) ?_ ⟨_, rfl, hI.up (by decide) hn (fun e => by cases e) (fun e => by cases e)⟩
        go_simp
        rfl
      · obtain rfl := Option.some.inj (show some _ = some o from ho)
        have hb6 : VBox wc (w.heap.size + 1) v := by
          have := hI.b6
          rw [hI.n6 (hI.n2 hn)] at this
          exact this
        obtain ⟨m0, m1, m2, m3, m4, m5, m6, m7⟩ := hb6.all
        refine aVal rfl rfl (v := F5 u v x p q 1) (w' := wc) ?_ ⟨_, rfl, hI.up (by decide) hn (fun e => by cases e) (fun e => by cases e)⟩
        go_simp
        rfl
      · obtain rfl := Option.some.inj (show some _ = some o from ho)
        obtain ⟨y0, hy0⟩ := hdep ⟨0, .data⟩ (by simp) rfl
        obtain ⟨y1, hy1⟩ := hdep ⟨1, .data⟩ (by simp) rfl
        have s0 := slotE (hNew 0 24 _ y0 rfl rfl (by kernel_rfl) hy0)
        have s1 := slotE (hNew 1 25 _ y1 rfl rfl (by kernel_rfl) hy1)
        rw [hI.fx 0 (by decide) y0 hy0] at s0
        rw [hI.fx 1 (by decide) y1 hy1] at s1
        refine aCall rfl rfl (w1 := wc) ?_ ((HC1.out wc hgc).mono fun e w' ⟨he, hg⟩ => ⟨_, he, _, rfl, (hI.next hg).up (k := 2) (by decide) hn (fun _ => ⟨_, hy1⟩) (fun e => absurd e (by decide))⟩)
        unfold F5 at s0 s1
        go_simp
      · obtain rfl := Option.some.inj (show some _ = some o from ho)
        refine aVal rfl rfl (v := F5 u v x p q 3) (w' := wc) ?_ ⟨_, rfl, hI.up (by decide) hn (fun e => by cases e) (fun e => by cases e)⟩
        go_simp
        rfl
      · obtain rfl := Option.some.inj (show some _ = some o from ho)
        have hb7 : VBox wc (w.heap.size + 1 + 1) x := by
          have := hI.b7
          rw [hI.n7 (hI.n5 hn)] at this
          exact this
        obtain ⟨m0, m1, m2, m3, m4, m5, m6, m7⟩ := hb7.all
        refine aVal rfl rfl (v := F5 u v x p q 4) (w' := wc) ?_ ⟨_, rfl, hI.up (by decide) hn (fun e => by cases e) (fun e => by cases e)⟩
        go_simp
        rfl
      · obtain rfl := Option.some.inj (show some _ = some o from ho)
        obtain ⟨y0, hy0⟩ := hdep ⟨3, .data⟩ (by simp) rfl
        obtain ⟨y1, hy1⟩ := hdep ⟨4, .data⟩ (by simp) rfl
        have s0 := slotE (hNew 3 27 _ y0 rfl rfl (by kernel_rfl) hy0)
        have s1 := slotE (hNew 4 28 _ y1 rfl rfl (by kernel_rfl) hy1)
        rw [hI.fx 3 (by decide) y0 hy0] at s0
        rw [hI.fx 4 (by decide) y1 hy1] at s1
        refine aCall rfl rfl (w1 := wc) ?_ ((HC2.out wc hgc).mono fun e w' ⟨he, hg⟩ => ⟨_, he, _, rfl, (hI.next hg).up (k := 5) (by decide) hn (fun e => absurd e (by decide)) (fun _ => ⟨_, hy1⟩)⟩)
        unfold F5 at s0 s1
        go_simp
      · obtain rfl := Option.some.inj (show some _ = some o from ho)
        obtain ⟨y1, hy1⟩ := hdep ⟨2, .data⟩ (by simp) rfl
        have s1 := slotE (hNew 2 26 _ y1 rfl rfl (by kernel_rfl) hy1)
        rw [hI.fx 2 (by decide) y1 hy1] at s1
        unfold F5 at s1
        obtain ⟨c0, c1, c2, c3, c4, c5, c6, c7⟩ := hI.b6.all
        obtain ⟨f0, f1, f2, f3, f4, f5, f6, f7⟩ := hI.b6.fz
        refine aSkip rfl rfl (w' := putCells wc (w.heap.size + 1) 0 (vcells p).toList) ?_ ⟨_, rfl, hI.put6 ⟨_, hy1⟩⟩
        clear hI
        go_simp
        rfl
      · obtain rfl := Option.some.inj (show some _ = some o from ho)
        obtain ⟨y1, hy1⟩ := hdep ⟨5, .data⟩ (by simp) rfl
        have s1 := slotE (hNew 5 29 _ y1 rfl rfl (by kernel_rfl) hy1)
        rw [hI.fx 5 (by decide) y1 hy1] at s1
        unfold F5 at s1
        obtain ⟨c0, c1, c2, c3, c4, c5, c6, c7⟩ := hI.b7.all
        obtain ⟨f0, f1, f2, f3, f4, f5, f6, f7⟩ := hI.b7.fz
        refine aSkip rfl rfl (w' := putCells wc (w.heap.size + 1 + 1) 0 (vcells q).toList) ?_ ⟨_, rfl, hI.put7 ⟨_, hy1⟩⟩
        clear hI
        go_simp
        rfl
    · intro vals wc hall hI
      refine NoPanic.normal ?_
      obtain ⟨y0, h0⟩ := hall 0 (by decide)
      obtain ⟨y1, h1⟩ := hall 1 (by decide)
      obtain ⟨y2, h2⟩ := hall 2 (by decide)
      obtain ⟨y3, h3⟩ := hall 3 (by decide)
      obtain ⟨y4, h4⟩ := hall 4 (by decide)
      obtain ⟨y5, h5⟩ := hall 5 (by decide)
      obtain ⟨y6, h6⟩ := hall 6 (by decide)
      obtain ⟨y7, h7⟩ := hall 7 (by decide)
      have hb6 := hI.b6
      have hb7 := hI.b7
      rw [h6] at hb6
      rw [h7] at hb7
      have HB6 : Hid (VBox wc (w.heap.size + 1) p) := Lib.hid hb6
      have HB7 : Hid (VBox wc (w.heap.size + 1 + 1) q) := Lib.hid hb7
      have HLB := Lib.hid hI.lb
      have HGC := Lib.hid hI.gr
      simp only [putAll, putV, h0, h1, h2, h3, h4, h5, h6, h7]
      clear hI hall h0 h1 h2 h3 h4 h5 h6 h7 hb6 hb7
      simp only [Act.put, List.setIfInBounds_toArray, List.set_cons_zero, List.set_cons_succ]
      go_wp2_with fail
      go_meet
      exact ⟨rfl, Lib.hid ⟨HLB.out, HB6.out, HB7.out, HGC.out⟩⟩
  case rest =>
    obtain ⟨rfl, hst6⟩ := hcut
    rename World => w6
    have HS6 := hst6
    clear hst6
    go_upto_region 6 with (fail)
    go_cut [11, 12] (fun sa sb wx => ∃ P, sa = .pointer (some ⟨P, 0, none⟩) ∧ sb = .int .i64 0 ∧ Hid (wx.heap[P]? = some (.cells (valv na) 32 (0, 0)) ∧ Gr w6 wx))
    case first =>
      refine wp_region_noPanic ?_
      refine iRegionA (RI btL w6 (QL (FV start u p key na) (GV l) (fun _ => none) w6.heap.size) [(9, 10, 7)] (fun _ => 32) (fun _ => valv 0)) (by kernel_rfl) (by kernel_rfl) (ri_start QL.st (Gr.refl _)) ?_ ?_
      · intro i o ho vals wc A hI hn hdep hOld hNew
        have hi : i < 12 := (List.getElem?_eq_some_iff.1 ho).1
        have hgc := HS6.out.2.2.2.trans hI.gr
        have hL := HS6.out.1.gr hI.gr
        have hV1 := HS6.out.2.1.gr hI.gr
        have hV2 := HS6.out.2.2.1.gr hI.gr
        obtain ⟨l0, l1, l2, l3, l4, l5, l6, l7⟩ := hL.all
        obtain ⟨m0, m1, m2, m3, m4, m5, m6, m7⟩ := hV1.all
        obtain ⟨n0, n1, n2, n3, n4, n5, n6, n7⟩ := hV2.all
        have eo4 : A.tmps[4]?.getD undef = .int .i64 start := slotE (hOld 4 (by kernel_rfl))
        have eo3 : A.tmps[3]?.getD undef = .string key := slotE (hOld 3 (by kernel_rfl))
        have eo5 : A.tmps[5]?.getD undef = .pointer (some ⟨w.heap.size, 0, none⟩) := slotE (hOld 5 (by kernel_rfl))
        have eo6 : A.tmps[6]?.getD undef = .pointer (some ⟨w.heap.size + 1, 0, none⟩) := slotE (hOld 6 (by kernel_rfl))
        have eo7 : A.tmps[7]?.getD undef = .pointer (some ⟨w.heap.size + 1 + 1, 0, none⟩) := slotE (hOld 7 (by kernel_rfl))
        obtain rfl | rfl | rfl | rfl | rfl | rfl | rfl | rfl | rfl | rfl | rfl | rfl : i = 0 ∨ i = 1 ∨ i = 2 ∨ i = 3 ∨ i = 4 ∨ i = 5 ∨ i = 6 ∨ i = 7 ∨ i = 8 ∨ i = 9 ∨ i = 10 ∨ i = 11 := by omega
        · obtain rfl := Option.some.inj (show some _ = some o from ho)
          refine aVal rfl rfl (v := .int .i64 start) (w' := wc) ?_ ⟨_, rfl, hI.val hn (by decide) (qlF rfl rfl rfl)⟩
          go_simp
        · obtain rfl := Option.some.inj (show some _ = some o from ho)
          refine aVal rfl rfl (v := .agg (lcells u)) (w' := wc) ?_ ⟨_, rfl, hI.val hn (by decide) (qlF rfl rfl rfl)⟩
          go_simp
        · obtain rfl := Option.some.inj (show some _ = some o from ho)
          obtain ⟨y1, hy1⟩ := hdep ⟨1, .data⟩ (by simp) rfl
          have s1 := slotE (hNew 1 32 _ y1 rfl rfl (by kernel_rfl) hy1)
          rw [(hI.ok 1 y1 hy1).f _ rfl] at s1
          refine aCall rfl rfl (w1 := wc) ?_ ((HCP.out wc hgc).mono fun e w' ⟨ux, he, hlx, hg⟩ => ⟨_, he, _, rfl, (hI.next hg).val hn (by decide) (qlG rfl rfl rfl (hlx.le hI.gr.size))⟩)
          go_simp
        · obtain rfl := Option.some.inj (show some _ = some o from ho)
          refine aVal rfl rfl (v := .agg (vcells p)) (w' := wc) ?_ ⟨_, rfl, hI.val hn (by decide) (qlF rfl rfl rfl)⟩
          go_simp
        · obtain rfl := Option.some.inj (show some _ = some o from ho)
          refine aVal rfl rfl (v := .string key) (w' := wc) ?_ ⟨_, rfl, hI.val hn (by decide) (qlF rfl rfl rfl)⟩
          go_simp
        · obtain rfl := Option.some.inj (show some _ = some o from ho)
          obtain ⟨y0, hy0⟩ := hdep ⟨0, .data⟩ (by simp) rfl
          have s0 := slotE (hNew 0 31 _ y0 rfl rfl (by kernel_rfl) hy0)
          rw [(hI.ok 0 y0 hy0).f _ rfl] at s0
          obtain ⟨y2, hy2⟩ := hdep ⟨2, .data⟩ (by simp) rfl
          obtain ⟨u2, rfl, hl2⟩ := (hI.ok 2 y2 hy2).g _ rfl
          have s2 := slotE (hNew 2 33 _ _ rfl rfl (by kernel_rfl) hy2)
          obtain ⟨y3, hy3⟩ := hdep ⟨3, .data⟩ (by simp) rfl
          have s3 := slotE (hNew 3 34 _ y3 rfl rfl (by kernel_rfl) hy3)
          rw [(hI.ok 3 y3 hy3).f _ rfl] at s3
          obtain ⟨y4, hy4⟩ := hdep ⟨4, .data⟩ (by simp) rfl
          have s4 := slotE (hNew 4 35 _ y4 rfl rfl (by kernel_rfl) hy4)
          rw [(hI.ok 4 y4 hy4).f _ rfl] at s4
          refine aCall rfl rfl (w1 := wc) ?_ ((HVA.out u2 wc hl2.lv).mono fun e w' ⟨he, hg⟩ => ⟨_, he, _, rfl, (hI.next hg).val hn (by decide) (qlF rfl rfl rfl)⟩)
          go_simp
        · obtain rfl := Option.some.inj (show some _ = some o from ho)
          obtain ⟨y5, hy5⟩ := hdep ⟨5, .data⟩ (by simp) rfl
          have s5 := slotE (hNew 5 36 _ y5 rfl rfl (by kernel_rfl) hy5)
          rw [(hI.ok 5 y5 hy5).f _ rfl] at s5
          refine aVal rfl rfl (v := .tuple #[.agg (valv na), .int .i64 0]) (w' := wc) ?_ ⟨_, rfl, hI.val hn (by decide) (qlF rfl rfl rfl)⟩
          go_simp
        · obtain rfl := Option.some.inj (show some _ = some o from ho)
          obtain ⟨y6, hy6⟩ := hdep ⟨6, .data⟩ (by simp) rfl
          have s6 := slotE (hNew 6 30 _ y6 rfl rfl (by kernel_rfl) hy6)
          rw [(hI.ok 6 y6 hy6).f _ rfl] at s6
          refine aVal rfl rfl (v := .agg (valv na)) (w' := wc) ?_ ⟨_, rfl, hI.val hn (by decide) (qlF rfl rfl rfl)⟩
          go_simp
        · obtain rfl := Option.some.inj (show some _ = some o from ho)
          obtain ⟨y6, hy6⟩ := hdep ⟨6, .data⟩ (by simp) rfl
          have s6 := slotE (hNew 6 30 _ y6 rfl rfl (by kernel_rfl) hy6)
          rw [(hI.ok 6 y6 hy6).f _ rfl] at s6
          refine aVal rfl rfl (v := .int .i64 0) (w' := wc) ?_ ⟨_, rfl, hI.val hn (by decide) (qlF rfl rfl rfl)⟩
          go_simp
        · obtain rfl := Option.some.inj (show some _ = some o from ho)
          refine aVal rfl rfl (v := .pointer (some ⟨wc.heap.size, 0, none⟩)) (w' := wc.alloc (.cells (valv 0) 32)) ?_ ⟨_, rfl, hI.new hn (by decide) rfl rfl (fun _ _ => qlN rfl rfl rfl)⟩
          go_simp
        · obtain rfl := Option.some.inj (show some _ = some o from ho)
          obtain ⟨y9, hy9⟩ := hdep ⟨9, .data⟩ (by simp) rfl
          obtain ⟨P, rfl, hP1, hP2⟩ := hI.at_new (a := 9) (k := 10) (s := 7) (by decide) hn hy9
          have s9 := slotE (hNew 9 11 _ _ rfl rfl (by kernel_rfl) hy9)
          obtain ⟨y7, hy7⟩ := hdep ⟨7, .data⟩ (by simp) rfl
          have s7 := slotE (hNew 7 37 _ y7 rfl rfl (by kernel_rfl) hy7)
          have q7 := (hI.ok 7 y7 hy7).f _ rfl
          subst q7
          have z0 : wc.cell? ⟨P, 0, none⟩ = some (.int .i64 0) := by rw [cell_of_block hP2]; rfl
          have z1 : wc.cell? ⟨P, 1, none⟩ = some (.slice none 0 0) := by rw [cell_of_block hP2]; rfl
          have z2 : wc.cell? ⟨P, 2, none⟩ = some (.bool false) := by rw [cell_of_block hP2]; rfl
          have k0 := unfrozen_of_block hP2 0
          have k1 := unfrozen_of_block hP2 1
          have k2 := unfrozen_of_block hP2 2
          have hz := hP2
          refine aSkip rfl rfl (w' := putCells wc P 0 (valv na).toList) ?_ ⟨_, rfl, hI.putA (a := 9) (k := 10) (s := 7) (c := valv na) (by decide) hn (by decide) (by decide) (by decide) hy9 hy7 rfl (fun _ => qlN rfl rfl rfl)⟩
          clear hP2
          clear hz hI
          go_simp
          rfl
        · obtain rfl := Option.some.inj (show some _ = some o from ho)
          obtain ⟨y8, hy8⟩ := hdep ⟨8, .data⟩ (by simp) rfl
          have s8 := slotE (hNew 8 38 _ y8 rfl rfl (by kernel_rfl) hy8)
          rw [(hI.ok 8 y8 hy8).f _ rfl] at s8
          refine aVal rfl rfl (v := .int .i64 0) (w' := wc) ?_ ⟨_, rfl, hI.val hn (by decide) (qlF rfl rfl rfl)⟩
          go_simp
      · intro vals wc hall hI
        refine NoPanic.normal ?_
        obtain ⟨y0, h0⟩ := hall 0 (by decide)
        obtain ⟨y1, h1⟩ := hall 1 (by decide)
        obtain ⟨y2, h2⟩ := hall 2 (by decide)
        obtain ⟨y3, h3⟩ := hall 3 (by decide)
        obtain ⟨y4, h4⟩ := hall 4 (by decide)
        obtain ⟨y5, h5⟩ := hall 5 (by decide)
        obtain ⟨y6, h6⟩ := hall 6 (by decide)
        obtain ⟨y7, h7⟩ := hall 7 (by decide)
        obtain ⟨y8, h8⟩ := hall 8 (by decide)
        obtain ⟨y9, h9⟩ := hall 9 (by decide)
        obtain ⟨y10, h10⟩ := hall 10 (by decide)
        obtain ⟨y11, h11⟩ := hall 11 (by decide)
        have q7 := (hI.ok 7 y7 h7).f _ rfl
        obtain ⟨P, rfl, -, hbP⟩ := hI.at_full (a := 9) (k := 10) (s := 7) (by decide) h10 h7 h9
        subst q7
        obtain rfl := (hI.ok 11 y11 h11).f _ rfl
        have HBP : Hid (wc.heap[P]? = some (.cells (valv na) 32 (0, 0))) := Lib.hid hbP
        have HGC := Lib.hid hI.gr
        clear hbP
        simp only [putAll, putV, h0, h1, h2, h3, h4, h5, h6, h7, h8, h9, h10, h11]
        clear hI hall h0 h1 h2 h3 h4 h5 h6 h7 h8 h9 h10 h11
        simp only [Act.put, List.setIfInBounds_toArray, List.set_cons_zero, List.set_cons_succ]
        go_wp2_with fail
        go_meet
        exact ⟨P, rfl, rfl, Lib.hid ⟨HBP.out, HGC.out⟩⟩
    case rest =>
      obtain ⟨P0, rfl, rfl, hr⟩ := hcut
      rename World => w7
      have HB7 := Lib.hid hr.out.1
      have HG7 := Lib.hid hr.out.2
      have HS7 : Hid (LBox w7 w.heap.size u ∧ VBox w7 (w.heap.size + 1) p ∧ VBox w7 (w.heap.size + 1 + 1) q ∧ Gr w w7) := Lib.hid ⟨HS6.out.1.gr hr.out.2, HS6.out.2.1.gr hr.out.2, HS6.out.2.2.1.gr hr.out.2, HS6.out.2.2.2.trans hr.out.2⟩
      clear hr
      go_upto_region 7 with (fail)
      go_cut [13, 14] (fun sa sb wx => ∃ P, sa = .pointer (some ⟨P, 0, none⟩) ∧ sb = .int .i64 0 ∧ Hid (wx.heap[P]? = some (.cells (valv nb) 32 (0, 0)) ∧ Gr w7 wx))
      case first =>
        refine wp_region_noPanic ?_
        refine iRegionA (RI btL w7 (QL (FV start u q key nb) (GV l) (fun _ => none) w7.heap.size) [(9, 10, 7)] (fun _ => 32) (fun _ => valv 0)) (by kernel_rfl) (by kernel_rfl) (ri_start QL.st (Gr.refl _)) ?_ ?_
        · intro i o ho vals wc A hI hn hdep hOld hNew
          have hi : i < 12 := (List.getElem?_eq_some_iff.1 ho).1
          have hgc := HS7.out.2.2.2.trans hI.gr
          have hL := HS7.out.1.gr hI.gr
          have hV1 := HS7.out.2.1.gr hI.gr
          have hV2 := HS7.out.2.2.1.gr hI.gr
          obtain ⟨l0, l1, l2, l3, l4, l5, l6, l7⟩ := hL.all
          obtain ⟨m0, m1, m2, m3, m4, m5, m6, m7⟩ := hV1.all
          obtain ⟨n0, n1, n2, n3, n4, n5, n6, n7⟩ := hV2.all
          have eo4 : A.tmps[4]?.getD undef = .int .i64 start := slotE (hOld 4 (by kernel_rfl))
          have eo3 : A.tmps[3]?.getD undef = .string key := slotE (hOld 3 (by kernel_rfl))
          have eo5 : A.tmps[5]?.getD undef = .pointer (some ⟨w.heap.size, 0, none⟩) := slotE (hOld 5 (by kernel_rfl))
          have eo6 : A.tmps[6]?.getD undef = .pointer (some ⟨w.heap.size + 1, 0, none⟩) := slotE (hOld 6 (by kernel_rfl))
          have eo7 : A.tmps[7]?.getD undef = .pointer (some ⟨w.heap.size + 1 + 1, 0, none⟩) := slotE (hOld 7 (by kernel_rfl))
          obtain rfl | rfl | rfl | rfl | rfl | rfl | rfl | rfl | rfl | rfl | rfl | rfl : i = 0 ∨ i = 1 ∨ i = 2 ∨ i = 3 ∨ i = 4 ∨ i = 5 ∨ i = 6 ∨ i = 7 ∨ i = 8 ∨ i = 9 ∨ i = 10 ∨ i = 11 := by omega
          · obtain rfl := Option.some.inj (show some _ = some o from ho)
            refine aVal rfl rfl (v := .int .i64 start) (w' := wc) ?_ ⟨_, rfl, hI.val hn (by decide) (qlF rfl rfl rfl)⟩
            go_simp
          · obtain rfl := Option.some.inj (show some _ = some o from ho)
            refine aVal rfl rfl (v := .agg (lcells u)) (w' := wc) ?_ ⟨_, rfl, hI.val hn (by decide) (qlF rfl rfl rfl)⟩
            go_simp
          · obtain rfl := Option.some.inj (show some _ = some o from ho)
            obtain ⟨y1, hy1⟩ := hdep ⟨1, .data⟩ (by simp) rfl
            have s1 := slotE (hNew 1 41 _ y1 rfl rfl (by kernel_rfl) hy1)
            rw [(hI.ok 1 y1 hy1).f _ rfl] at s1
            refine aCall rfl rfl (w1 := wc) ?_ ((HCP.out wc hgc).mono fun e w' ⟨ux, he, hlx, hg⟩ => ⟨_, he, _, rfl, (hI.next hg).val hn (by decide) (qlG rfl rfl rfl (hlx.le hI.gr.size))⟩)
            go_simp
          · obtain rfl := Option.some.inj (show some _ = some o from ho)
            refine aVal rfl rfl (v := .agg (vcells q)) (w' := wc) ?_ ⟨_, rfl, hI.val hn (by decide) (qlF rfl rfl rfl)⟩
            go_simp
          · obtain rfl := Option.some.inj (show some _ = some o from ho)
            refine aVal rfl rfl (v := .string key) (w' := wc) ?_ ⟨_, rfl, hI.val hn (by decide) (qlF rfl rfl rfl)⟩
            go_simp
          · obtain rfl := Option.some.inj (show some _ = some o from ho)
            obtain ⟨y0, hy0⟩ := hdep ⟨0, .data⟩ (by simp) rfl
            have s0 := slotE (hNew 0 40 _ y0 rfl rfl (by kernel_rfl) hy0)
            rw [(hI.ok 0 y0 hy0).f _ rfl] at s0
            obtain ⟨y2, hy2⟩ := hdep ⟨2, .data⟩ (by simp) rfl
            obtain ⟨u2, rfl, hl2⟩ := (hI.ok 2 y2 hy2).g _ rfl
            have s2 := slotE (hNew 2 42 _ _ rfl rfl (by kernel_rfl) hy2)
            obtain ⟨y3, hy3⟩ := hdep ⟨3, .data⟩ (by simp) rfl
            have s3 := slotE (hNew 3 43 _ y3 rfl rfl (by kernel_rfl) hy3)
            rw [(hI.ok 3 y3 hy3).f _ rfl] at s3
            obtain ⟨y4, hy4⟩ := hdep ⟨4, .data⟩ (by simp) rfl
            have s4 := slotE (hNew 4 44 _ y4 rfl rfl (by kernel_rfl) hy4)
            rw [(hI.ok 4 y4 hy4).f _ rfl] at s4
            refine aCall rfl rfl (w1 := wc) ?_ ((HVB.out u2 wc hl2.lv).mono fun e w' ⟨he, hg⟩ => ⟨_, he, _, rfl, (hI.next hg).val hn (by decide) (qlF rfl rfl rfl)⟩)
            go_simp
          · obtain rfl := Option.some.inj (show some _ = some o from ho)
            obtain ⟨y5, hy5⟩ := hdep ⟨5, .data⟩ (by simp) rfl
            have s5 := slotE (hNew 5 45 _ y5 rfl rfl (by kernel_rfl) hy5)
            rw [(hI.ok 5 y5 hy5).f _ rfl] at s5
            refine aVal rfl rfl (v := .tuple #[.agg (valv nb), .int .i64 0]) (w' := wc) ?_ ⟨_, rfl, hI.val hn (by decide) (qlF rfl rfl rfl)⟩
            go_simp
          · obtain rfl := Option.some.inj (show some _ = some o from ho)
            obtain ⟨y6, hy6⟩ := hdep ⟨6, .data⟩ (by simp) rfl
            have s6 := slotE (hNew 6 39 _ y6 rfl rfl (by kernel_rfl) hy6)
            rw [(hI.ok 6 y6 hy6).f _ rfl] at s6
            refine aVal rfl rfl (v := .agg (valv nb)) (w' := wc) ?_ ⟨_, rfl, hI.val hn (by decide) (qlF rfl rfl rfl)⟩
            go_simp
          · obtain rfl := Option.some.inj (show some _ = some o from ho)
            obtain ⟨y6, hy6⟩ := hdep ⟨6, .data⟩ (by simp) rfl
            have s6 := slotE (hNew 6 39 _ y6 rfl rfl (by kernel_rfl) hy6)
            rw [(hI.ok 6 y6 hy6).f _ rfl] at s6
            refine aVal rfl rfl (v := .int .i64 0) (w' := wc) ?_ ⟨_, rfl, hI.val hn (by decide) (qlF rfl rfl rfl)⟩
            go_simp
          · obtain rfl := Option.some.inj (show some _ = some o from ho)
            refine aVal rfl rfl (v := .pointer (some ⟨wc.heap.size, 0, none⟩)) (w' := wc.alloc (.cells (valv 0) 32)) ?_ ⟨_, rfl, hI.new hn (by decide) rfl rfl (fun _ _ => qlN rfl rfl rfl)⟩
            go_simp
          · obtain rfl := Option.some.inj (show some _ = some o from ho)
            obtain ⟨y9, hy9⟩ := hdep ⟨9, .data⟩ (by simp) rfl
            obtain ⟨P, rfl, hP1, hP2⟩ := hI.at_new (a := 9) (k := 10) (s := 7) (by decide) hn hy9
            have s9 := slotE (hNew 9 13 _ _ rfl rfl (by kernel_rfl) hy9)
            obtain ⟨y7, hy7⟩ := hdep ⟨7, .data⟩ (by simp) rfl
            have s7 := slotE (hNew 7 46 _ y7 rfl rfl (by kernel_rfl) hy7)
            have q7 := (hI.ok 7 y7 hy7).f _ rfl
            subst q7
            have z0 : wc.cell? ⟨P, 0, none⟩ = some (.int .i64 0) := by rw [cell_of_block hP2]; rfl
            have z1 : wc.cell? ⟨P, 1, none⟩ = some (.slice none 0 0) := by rw [cell_of_block hP2]; rfl
            have z2 : wc.cell? ⟨P, 2, none⟩ = some (.bool false) := by rw [cell_of_block hP2]; rfl
            have k0 := unfrozen_of_block hP2 0
            have k1 := unfrozen_of_block hP2 1
            have k2 := unfrozen_of_block hP2 2
            have hz := hP2
            refine aSkip rfl rfl (w' := putCells wc P 0 (valv nb).toList) ?_ ⟨_, rfl, hI.putA (a := 9) (k := 10) (s := 7) (c := valv nb) (by decide) hn (by decide) (by decide) (by decide) hy9 hy7 rfl (fun _ => qlN rfl rfl rfl)⟩
            clear hP2
            clear hz hI
            go_simp
            rfl
          · obtain rfl := Option.some.inj (show some _ = some o from ho)
            obtain ⟨y8, hy8⟩ := hdep ⟨8, .data⟩ (by simp) rfl
            have s8 := slotE (hNew 8 47 _ y8 rfl rfl (by kernel_rfl) hy8)
            rw [(hI.ok 8 y8 hy8).f _ rfl] at s8
            refine aVal rfl rfl (v := .int .i64 0) (w' := wc) ?_ ⟨_, rfl, hI.val hn (by decide) (qlF rfl rfl rfl)⟩
            go_simp
        · intro vals wc hall hI
          refine NoPanic.normal ?_
          obtain ⟨y0, h0⟩ := hall 0 (by decide)
          obtain ⟨y1, h1⟩ := hall 1 (by decide)
          obtain ⟨y2, h2⟩ := hall 2 (by decide)
          obtain ⟨y3, h3⟩ := hall 3 (by decide)
          obtain ⟨y4, h4⟩ := hall 4 (by decide)
          obtain ⟨y5, h5⟩ := hall 5 (by decide)
          obtain ⟨y6, h6⟩ := hall 6 (by decide)
          obtain ⟨y7, h7⟩ := hall 7 (by decide)
          obtain ⟨y8, h8⟩ := hall 8 (by decide)
          obtain ⟨y9, h9⟩ := hall 9 (by decide)
          obtain ⟨y10, h10⟩ := hall 10 (by decide)
          obtain ⟨y11, h11⟩ := hall 11 (by decide)
          have q7 := (hI.ok 7 y7 h7).f _ rfl
          obtain ⟨P, rfl, -, hbP⟩ := hI.at_full (a := 9) (k := 10) (s := 7) (by decide) h10 h7 h9
          subst q7
          obtain rfl := (hI.ok 11 y11 h11).f _ rfl
          have HBP : Hid (wc.heap[P]? = some (.cells (valv nb) 32 (0, 0))) := Lib.hid hbP
          have HGC := Lib.hid hI.gr
          clear hbP
          simp only [putAll, putV, h0, h1, h2, h3, h4, h5, h6, h7, h8, h9, h10, h11]
          clear hI hall h0 h1 h2 h3 h4 h5 h6 h7 h8 h9 h10 h11
          simp only [Act.put, List.setIfInBounds_toArray, List.set_cons_zero, List.set_cons_succ]
          go_wp2_with fail
          go_meet
          exact ⟨P, rfl, rfl, Lib.hid ⟨HBP.out, HGC.out⟩⟩
      case rest =>
        obtain ⟨P1, rfl, rfl, hr⟩ := hcut
        rename World => w8
        have HB8 := Lib.hid hr.out.1
        have HG8 := Lib.hid hr.out.2
        have HS8 : Hid (LBox w8 w.heap.size u ∧ VBox w8 (w.heap.size + 1) p ∧ VBox w8 (w.heap.size + 1 + 1) q ∧ Gr w w8) := Lib.hid ⟨HS7.out.1.gr hr.out.2, HS7.out.2.1.gr hr.out.2, HS7.out.2.2.1.gr hr.out.2, HS7.out.2.2.2.trans hr.out.2⟩
        clear hr
        go_upto_region 8 with (fail)
        go_cut [15, 16] (fun sa sb wx => ∃ P, sa = .pointer (some ⟨P, 0, none⟩) ∧ sb = .int .i64 0 ∧ Hid (wx.heap[P]? = some (.cells (valv nc) 32 (0, 0)) ∧ Gr w8 wx))
        case first =>
          refine wp_region_noPanic ?_
          refine iRegionA (RI btL w8 (QL (FW start u p q cj key nc) (GV l) (fun _ => none) w8.heap.size) [(11, 12, 9)] (fun _ => 32) (fun _ => valv 0)) (by kernel_rfl) (by kernel_rfl) (ri_start QL.st (Gr.refl _)) ?_ ?_
          · intro i o ho vals wc A hI hn hdep hOld hNew
            have hi : i < 14 := (List.getElem?_eq_some_iff.1 ho).1
            have hgc := HS8.out.2.2.2.trans hI.gr
            have hL := HS8.out.1.gr hI.gr
            have hV1 := HS8.out.2.1.gr hI.gr
            have hV2 := HS8.out.2.2.1.gr hI.gr
            obtain ⟨l0, l1, l2, l3, l4, l5, l6, l7⟩ := hL.all
            obtain ⟨m0, m1, m2, m3, m4, m5, m6, m7⟩ := hV1.all
            obtain ⟨n0, n1, n2, n3, n4, n5, n6, n7⟩ := hV2.all
            have eo4 : A.tmps[4]?.getD undef = .int .i64 start := slotE (hOld 4 (by kernel_rfl))
            have eo3 : A.tmps[3]?.getD undef = .string key := slotE (hOld 3 (by kernel_rfl))
            have eo5 : A.tmps[5]?.getD undef = .pointer (some ⟨w.heap.size, 0, none⟩) := slotE (hOld 5 (by kernel_rfl))
            have eo6 : A.tmps[6]?.getD undef = .pointer (some ⟨w.heap.size + 1, 0, none⟩) := slotE (hOld 6 (by kernel_rfl))
            have eo7 : A.tmps[7]?.getD undef = .pointer (some ⟨w.heap.size + 1 + 1, 0, none⟩) := slotE (hOld 7 (by kernel_rfl))
            obtain rfl | rfl | rfl | rfl | rfl | rfl | rfl | rfl | rfl | rfl | rfl | rfl | rfl | rfl : i = 0 ∨ i = 1 ∨ i = 2 ∨ i = 3 ∨ i = 4 ∨ i = 5 ∨ i = 6 ∨ i = 7 ∨ i = 8 ∨ i = 9 ∨ i = 10 ∨ i = 11 ∨ i = 12 ∨ i = 13 := by omega
            · obtain rfl := Option.some.inj (show some _ = some o from ho)
              refine aVal rfl rfl (v := .int .i64 start) (w' := wc) ?_ ⟨_, rfl, hI.val hn (by decide) (qlF rfl rfl rfl)⟩
              go_simp
            · obtain rfl := Option.some.inj (show some _ = some o from ho)
              refine aVal rfl rfl (v := .agg (lcells u)) (w' := wc) ?_ ⟨_, rfl, hI.val hn (by decide) (qlF rfl rfl rfl)⟩
              go_simp
            · obtain rfl := Option.some.inj (show some _ = some o from ho)
              obtain ⟨y1, hy1⟩ := hdep ⟨1, .data⟩ (by simp) rfl
              have s1 := slotE (hNew 1 50 _ y1 rfl rfl (by kernel_rfl) hy1)
              rw [(hI.ok 1 y1 hy1).f _ rfl] at s1
              refine aCall rfl rfl (w1 := wc) ?_ ((HCP.out wc hgc).mono fun e w' ⟨ux, he, hlx, hg⟩ => ⟨_, he, _, rfl, (hI.next hg).val hn (by decide) (qlG rfl rfl rfl (hlx.le hI.gr.size))⟩)
              go_simp
            · obtain rfl := Option.some.inj (show some _ = some o from ho)
              refine aVal rfl rfl (v := .agg (vcells p)) (w' := wc) ?_ ⟨_, rfl, hI.val hn (by decide) (qlF rfl rfl rfl)⟩
              go_simp
            · obtain rfl := Option.some.inj (show some _ = some o from ho)
              refine aVal rfl rfl (v := .agg (vcells q)) (w' := wc) ?_ ⟨_, rfl, hI.val hn (by decide) (qlF rfl rfl rfl)⟩
              go_simp
            · obtain rfl := Option.some.inj (show some _ = some o from ho)
              obtain ⟨y3, hy3⟩ := hdep ⟨3, .data⟩ (by simp) rfl
              have s3 := slotE (hNew 3 52 _ y3 rfl rfl (by kernel_rfl) hy3)
              rw [(hI.ok 3 y3 hy3).f _ rfl] at s3
              obtain ⟨y4, hy4⟩ := hdep ⟨4, .data⟩ (by simp) rfl
              have s4 := slotE (hNew 4 53 _ y4 rfl rfl (by kernel_rfl) hy4)
              rw [(hI.ok 4 y4 hy4).f _ rfl] at s4
              refine aCall rfl rfl (w1 := wc) ?_ ((HJN.out wc).mono fun e w' ⟨he, hg⟩ => ⟨_, he, _, rfl, (hI.next hg).val hn (by decide) (qlF rfl rfl rfl)⟩)
              go_simp
            · obtain rfl := Option.some.inj (show some _ = some o from ho)
              refine aVal rfl rfl (v := .string key) (w' := wc) ?_ ⟨_, rfl, hI.val hn (by decide) (qlF rfl rfl rfl)⟩
              go_simp
            · obtain rfl := Option.some.inj (show some _ = some o from ho)
              obtain ⟨y0, hy0⟩ := hdep ⟨0, .data⟩ (by simp) rfl
              have s0 := slotE (hNew 0 49 _ y0 rfl rfl (by kernel_rfl) hy0)
              rw [(hI.ok 0 y0 hy0).f _ rfl] at s0
              obtain ⟨y2, hy2⟩ := hdep ⟨2, .data⟩ (by simp) rfl
              obtain ⟨u2, rfl, hl2⟩ := (hI.ok 2 y2 hy2).g _ rfl
              have s2 := slotE (hNew 2 51 _ _ rfl rfl (by kernel_rfl) hy2)
              obtain ⟨y5, hy5⟩ := hdep ⟨5, .data⟩ (by simp) rfl
              have s5 := slotE (hNew 5 54 _ y5 rfl rfl (by kernel_rfl) hy5)
              rw [(hI.ok 5 y5 hy5).f _ rfl] at s5
              obtain ⟨y6, hy6⟩ := hdep ⟨6, .data⟩ (by simp) rfl
              have s6 := slotE (hNew 6 55 _ y6 rfl rfl (by kernel_rfl) hy6)
              rw [(hI.ok 6 y6 hy6).f _ rfl] at s6
              refine aCall rfl rfl (w1 := wc) ?_ ((HVC.out u2 wc hl2.lv).mono fun e w' ⟨he, hg⟩ => ⟨_, he, _, rfl, (hI.next hg).val hn (by decide) (qlF rfl rfl rfl)⟩)
              go_simp
            · obtain rfl := Option.some.inj (show some _ = some o from ho)
              obtain ⟨y7, hy7⟩ := hdep ⟨7, .data⟩ (by simp) rfl
              have s7 := slotE (hNew 7 56 _ y7 rfl rfl (by kernel_rfl) hy7)
              rw [(hI.ok 7 y7 hy7).f _ rfl] at s7
              refine aVal rfl rfl (v := .tuple #[.agg (valv nc), .int .i64 0]) (w' := wc) ?_ ⟨_, rfl, hI.val hn (by decide) (qlF rfl rfl rfl)⟩
              go_simp
            · obtain rfl := Option.some.inj (show some _ = some o from ho)
              obtain ⟨y8, hy8⟩ := hdep ⟨8, .data⟩ (by simp) rfl
              have s8 := slotE (hNew 8 48 _ y8 rfl rfl (by kernel_rfl) hy8)
              rw [(hI.ok 8 y8 hy8).f _ rfl] at s8
              refine aVal rfl rfl (v := .agg (valv nc)) (w' := wc) ?_ ⟨_, rfl, hI.val hn (by decide) (qlF rfl rfl rfl)⟩
              go_simp
            · obtain rfl := Option.some.inj (show some _ = some o from ho)
              obtain ⟨y8, hy8⟩ := hdep ⟨8, .data⟩ (by simp) rfl
              have s8 := slotE (hNew 8 48 _ y8 rfl rfl (by kernel_rfl) hy8)
              rw [(hI.ok 8 y8 hy8).f _ rfl] at s8
              refine aVal rfl rfl (v := .int .i64 0) (w' := wc) ?_ ⟨_, rfl, hI.val hn (by decide) (qlF rfl rfl rfl)⟩
              go_simp
            · obtain rfl := Option.some.inj (show some _ = some o from ho)
              refine aVal rfl rfl (v := .pointer (some ⟨wc.heap.size, 0, none⟩)) (w' := wc.alloc (.cells (valv 0) 32)) ?_ ⟨_, rfl, hI.new hn (by decide) rfl rfl (fun _ _ => qlN rfl rfl rfl)⟩
              go_simp
            · obtain rfl := Option.some.inj (show some _ = some o from ho)
              obtain ⟨y11, hy11⟩ := hdep ⟨11, .data⟩ (by simp) rfl
              obtain ⟨P, rfl, hP1, hP2⟩ := hI.at_new (a := 11) (k := 12) (s := 9) (by decide) hn hy11
              have s11 := slotE (hNew 11 15 _ _ rfl rfl (by kernel_rfl) hy11)
              obtain ⟨y9, hy9⟩ := hdep ⟨9, .data⟩ (by simp) rfl
              have s9 := slotE (hNew 9 57 _ y9 rfl rfl (by kernel_rfl) hy9)
              have q9 := (hI.ok 9 y9 hy9).f _ rfl
              subst q9
              have z0 : wc.cell? ⟨P, 0, none⟩ = some (.int .i64 0) := by rw [cell_of_block hP2]; rfl
              have z1 : wc.cell? ⟨P, 1, none⟩ = some (.slice none 0 0) := by rw [cell_of_block hP2]; rfl
              have z2 : wc.cell? ⟨P, 2, none⟩ = some (.bool false) := by rw [cell_of_block hP2]; rfl
              have k0 := unfrozen_of_block hP2 0
              have k1 := unfrozen_of_block hP2 1
              have k2 := unfrozen_of_block hP2 2
              have hz := hP2
              refine aSkip rfl rfl (w' := putCells wc P 0 (valv nc).toList) ?_ ⟨_, rfl, hI.putA (a := 11) (k := 12) (s := 9) (c := valv nc) (by decide) hn (by decide) (by decide) (by decide) hy11 hy9 rfl (fun _ => qlN rfl rfl rfl)⟩
              clear hP2
              clear hz hI
              go_simp
              rfl
            · obtain rfl := Option.some.inj (show some _ = some o from ho)
              obtain ⟨y10, hy10⟩ := hdep ⟨10, .data⟩ (by simp) rfl
              have s10 := slotE (hNew 10 58 _ y10 rfl rfl (by kernel_rfl) hy10)
              rw [(hI.ok 10 y10 hy10).f _ rfl] at s10
              refine aVal rfl rfl (v := .int .i64 0) (w' := wc) ?_ ⟨_, rfl, hI.val hn (by decide) (qlF rfl rfl rfl)⟩
              go_simp
          · intro vals wc hall hI
            refine NoPanic.normal ?_
            obtain ⟨y0, h0⟩ := hall 0 (by decide)
            obtain ⟨y1, h1⟩ := hall 1 (by decide)
            obtain ⟨y2, h2⟩ := hall 2 (by decide)
            obtain ⟨y3, h3⟩ := hall 3 (by decide)
            obtain ⟨y4, h4⟩ := hall 4 (by decide)
            obtain ⟨y5, h5⟩ := hall 5 (by decide)
            obtain ⟨y6, h6⟩ := hall 6 (by decide)
            obtain ⟨y7, h7⟩ := hall 7 (by decide)
            obtain ⟨y8, h8⟩ := hall 8 (by decide)
            obtain ⟨y9, h9⟩ := hall 9 (by decide)
            obtain ⟨y10, h10⟩ := hall 10 (by decide)
            obtain ⟨y11, h11⟩ := hall 11 (by decide)
            obtain ⟨y12, h12⟩ := hall 12 (by decide)
            obtain ⟨y13, h13⟩ := hall 13 (by decide)
            have q9 := (hI.ok 9 y9 h9).f _ rfl
            obtain ⟨P, rfl, -, hbP⟩ := hI.at_full (a := 11) (k := 12) (s := 9) (by decide) h12 h9 h11
            subst q9
            obtain rfl := (hI.ok 13 y13 h13).f _ rfl
            have HBP : Hid (wc.heap[P]? = some (.cells (valv nc) 32 (0, 0))) := Lib.hid hbP
            have HGC := Lib.hid hI.gr
            clear hbP
            simp only [putAll, putV, h0, h1, h2, h3, h4, h5, h6, h7, h8, h9, h10, h11, h12, h13]
            clear hI hall h0 h1 h2 h3 h4 h5 h6 h7 h8 h9 h10 h11 h12 h13
            simp only [Act.put, List.setIfInBounds_toArray, List.set_cons_zero, List.set_cons_succ]
            go_wp2_with fail
            go_meet
            exact ⟨P, rfl, rfl, Lib.hid ⟨HBP.out, HGC.out⟩⟩
        case rest =>
          obtain ⟨P2, rfl, rfl, hr⟩ := hcut
          rename World => w9
          have HB9 := Lib.hid hr.out.1
          have HG9 := Lib.hid hr.out.2
          have HS9 : Hid (LBox w9 w.heap.size u ∧ VBox w9 (w.heap.size + 1) p ∧ VBox w9 (w.heap.size + 1 + 1) q ∧ Gr w w9) := Lib.hid ⟨HS8.out.1.gr hr.out.2, HS8.out.2.1.gr hr.out.2, HS8.out.2.2.1.gr hr.out.2, HS8.out.2.2.2.trans hr.out.2⟩
          clear hr
          go_upto_region 9 with (fail)
          go_cut [17, 18] (fun sa sb wx => ∃ P, sa = .pointer (some ⟨P, 0, none⟩) ∧ sb = .int .i64 0 ∧ Hid (wx.heap[P]? = some (.cells (valv nd) 32 (0, 0)) ∧ Gr w9 wx))
          case first =>
            refine wp_region_noPanic ?_
            refine iRegionA (RI btL w9 (QL (FW start u p q cm key nd) (GV l) (fun _ => none) w9.heap.size) [(11, 12, 9)] (fun _ => 32) (fun _ => valv 0)) (by kernel_rfl) (by kernel_rfl) (ri_start QL.st (Gr.refl _)) ?_ ?_
            · intro i o ho vals wc A hI hn hdep hOld hNew
              have hi : i < 14 := (List.getElem?_eq_some_iff.1 ho).1
              have hgc := HS9.out.2.2.2.trans hI.gr
              have hL := HS9.out.1.gr hI.gr
              have hV1 := HS9.out.2.1.gr hI.gr
              have hV2 := HS9.out.2.2.1.gr hI.gr
              obtain ⟨l0, l1, l2, l3, l4, l5, l6, l7⟩ := hL.all
              obtain ⟨m0, m1, m2, m3, m4, m5, m6, m7⟩ := hV1.all
              obtain ⟨n0, n1, n2, n3, n4, n5, n6, n7⟩ := hV2.all
              have eo4 : A.tmps[4]?.getD undef = .int .i64 start := slotE (hOld 4 (by kernel_rfl))
              have eo3 : A.tmps[3]?.getD undef = .string key := slotE (hOld 3 (by kernel_rfl))
              have eo5 : A.tmps[5]?.getD undef = .pointer (some ⟨w.heap.size, 0, none⟩) := slotE (hOld 5 (by kernel_rfl))
              have eo6 : A.tmps[6]?.getD undef = .pointer (some ⟨w.heap.size + 1, 0, none⟩) := slotE (hOld 6 (by kernel_rfl))
              have eo7 : A.tmps[7]?.getD undef = .pointer (some ⟨w.heap.size + 1 + 1, 0, none⟩) := slotE (hOld 7 (by kernel_rfl))
              obtain rfl | rfl | rfl | rfl | rfl | rfl | rfl | rfl | rfl | rfl | rfl | rfl | rfl | rfl : i = 0 ∨ i = 1 ∨ i = 2 ∨ i = 3 ∨ i = 4 ∨ i = 5 ∨ i = 6 ∨ i = 7 ∨ i = 8 ∨ i = 9 ∨ i = 10 ∨ i = 11 ∨ i = 12 ∨ i = 13 := by omega
              · obtain rfl := Option.some.inj (show some _ = some o from ho)
                refine aVal rfl rfl (v := .int .i64 start) (w' := wc) ?_ ⟨_, rfl, hI.val hn (by decide) (qlF rfl rfl rfl)⟩
                go_simp
              · obtain rfl := Option.some.inj (show some _ = some o from ho)
                refine aVal rfl rfl (v := .agg (lcells u)) (w' := wc) ?_ ⟨_, rfl, hI.val hn (by decide) (qlF rfl rfl rfl)⟩
                go_simp
              · obtain rfl := Option.some.inj (show some _ = some o from ho)
                obtain ⟨y1, hy1⟩ := hdep ⟨1, .data⟩ (by simp) rfl
                have s1 := slotE (hNew 1 61 _ y1 rfl rfl (by kernel_rfl) hy1)
                rw [(hI.ok 1 y1 hy1).f _ rfl] at s1
                refine aCall rfl rfl (w1 := wc) ?_ ((HCP.out wc hgc).mono fun e w' ⟨ux, he, hlx, hg⟩ => ⟨_, he, _, rfl, (hI.next hg).val hn (by decide) (qlG rfl rfl rfl (hlx.le hI.gr.size))⟩)
                go_simp
              · obtain rfl := Option.some.inj (show some _ = some o from ho)
                refine aVal rfl rfl (v := .agg (vcells p)) (w' := wc) ?_ ⟨_, rfl, hI.val hn (by decide) (qlF rfl rfl rfl)⟩
                go_simp
              · obtain rfl := Option.some.inj (show some _ = some o from ho)
                refine aVal rfl rfl (v := .agg (vcells q)) (w' := wc) ?_ ⟨_, rfl, hI.val hn (by decide) (qlF rfl rfl rfl)⟩
                go_simp
              · obtain rfl := Option.some.inj (show some _ = some o from ho)
                obtain ⟨y3, hy3⟩ := hdep ⟨3, .data⟩ (by simp) rfl
                have s3 := slotE (hNew 3 63 _ y3 rfl rfl (by kernel_rfl) hy3)
                rw [(hI.ok 3 y3 hy3).f _ rfl] at s3
                obtain ⟨y4, hy4⟩ := hdep ⟨4, .data⟩ (by simp) rfl
                have s4 := slotE (hNew 4 64 _ y4 rfl rfl (by kernel_rfl) hy4)
                rw [(hI.ok 4 y4 hy4).f _ rfl] at s4
                refine aCall rfl rfl (w1 := wc) ?_ ((HMT.out wc).mono fun e w' ⟨he, hg⟩ => ⟨_, he, _, rfl, (hI.next hg).val hn (by decide) (qlF rfl rfl rfl)⟩)
                go_simp
              · obtain rfl := Option.some.inj (show some _ = some o from ho)
                refine aVal rfl rfl (v := .string key) (w' := wc) ?_ ⟨_, rfl, hI.val hn (by decide) (qlF rfl rfl rfl)⟩
                go_simp
              · obtain rfl := Option.some.inj (show some _ = some o from ho)
                obtain ⟨y0, hy0⟩ := hdep ⟨0, .data⟩ (by simp) rfl
                have s0 := slotE (hNew 0 60 _ y0 rfl rfl (by kernel_rfl) hy0)
                rw [(hI.ok 0 y0 hy0).f _ rfl] at s0
                obtain ⟨y2, hy2⟩ := hdep ⟨2, .data⟩ (by simp) rfl
                obtain ⟨u2, rfl, hl2⟩ := (hI.ok 2 y2 hy2).g _ rfl
                have s2 := slotE (hNew 2 62 _ _ rfl rfl (by kernel_rfl) hy2)
                obtain ⟨y5, hy5⟩ := hdep ⟨5, .data⟩ (by simp) rfl
                have s5 := slotE (hNew 5 65 _ y5 rfl rfl (by kernel_rfl) hy5)
                rw [(hI.ok 5 y5 hy5).f _ rfl] at s5
                obtain ⟨y6, hy6⟩ := hdep ⟨6, .data⟩ (by simp) rfl
                have s6 := slotE (hNew 6 66 _ y6 rfl rfl (by kernel_rfl) hy6)
                rw [(hI.ok 6 y6 hy6).f _ rfl] at s6
                refine aCall rfl rfl (w1 := wc) ?_ ((HVD.out u2 wc hl2.lv).mono fun e w' ⟨he, hg⟩ => ⟨_, he, _, rfl, (hI.next hg).val hn (by decide) (qlF rfl rfl rfl)⟩)
                go_simp
              · obtain rfl := Option.some.inj (show some _ = some o from ho)
                obtain ⟨y7, hy7⟩ := hdep ⟨7, .data⟩ (by simp) rfl
                have s7 := slotE (hNew 7 67 _ y7 rfl rfl (by kernel_rfl) hy7)
                rw [(hI.ok 7 y7 hy7).f _ rfl] at s7
                refine aVal rfl rfl (v := .tuple #[.agg (valv nd), .int .i64 0]) (w' := wc) ?_ ⟨_, rfl, hI.val hn (by decide) (qlF rfl rfl rfl)⟩
                go_simp
              · obtain rfl := Option.some.inj (show some _ = some o from ho)
                obtain ⟨y8, hy8⟩ := hdep ⟨8, .data⟩ (by simp) rfl
                have s8 := slotE (hNew 8 59 _ y8 rfl rfl (by kernel_rfl) hy8)
                rw [(hI.ok 8 y8 hy8).f _ rfl] at s8
                refine aVal rfl rfl (v := .agg (valv nd)) (w' := wc) ?_ ⟨_, rfl, hI.val hn (by decide) (qlF rfl rfl rfl)⟩
                go_simp
              · obtain rfl := Option.some.inj (show some _ = some o from ho)
                obtain ⟨y8, hy8⟩ := hdep ⟨8, .data⟩ (by simp) rfl
                have s8 := slotE (hNew 8 59 _ y8 rfl rfl (by kernel_rfl) hy8)
                rw [(hI.ok 8 y8 hy8).f _ rfl] at s8
                refine aVal rfl rfl (v := .int .i64 0) (w' := wc) ?_ ⟨_, rfl, hI.val hn (by decide) (qlF rfl rfl rfl)⟩
                go_simp
              · obtain rfl := Option.some.inj (show some _ = some o from ho)
                refine aVal rfl rfl (v := .pointer (some ⟨wc.heap.size, 0, none⟩)) (w' := wc.alloc (.cells (valv 0) 32)) ?_ ⟨_, rfl, hI.new hn (by decide) rfl rfl (fun _ _ => qlN rfl rfl rfl)⟩
                go_simp
              · obtain rfl := Option.some.inj (show some _ = some o from ho)
                obtain ⟨y11, hy11⟩ := hdep ⟨11, .data⟩ (by simp) rfl
                obtain ⟨P, rfl, hP1, hP2⟩ := hI.at_new (a := 11) (k := 12) (s := 9) (by decide) hn hy11
                have s11 := slotE (hNew 11 17 _ _ rfl rfl (by kernel_rfl) hy11)
                obtain ⟨y9, hy9⟩ := hdep ⟨9, .data⟩ (by simp) rfl
                have s9 := slotE (hNew 9 68 _ y9 rfl rfl (by kernel_rfl) hy9)
                have q9 := (hI.ok 9 y9 hy9).f _ rfl
                subst q9
                have z0 : wc.cell? ⟨P, 0, none⟩ = some (.int .i64 0) := by rw [cell_of_block hP2]; rfl
                have z1 : wc.cell? ⟨P, 1, none⟩ = some (.slice none 0 0) := by rw [cell_of_block hP2]; rfl
                have z2 : wc.cell? ⟨P, 2, none⟩ = some (.bool false) := by rw [cell_of_block hP2]; rfl
                have k0 := unfrozen_of_block hP2 0
                have k1 := unfrozen_of_block hP2 1
                have k2 := unfrozen_of_block hP2 2
                have hz := hP2
                refine aSkip rfl rfl (w' := putCells wc P 0 (valv nd).toList) ?_ ⟨_, rfl, hI.putA (a := 11) (k := 12) (s := 9) (c := valv nd) (by decide) hn (by decide) (by decide) (by decide) hy11 hy9 rfl (fun _ => qlN rfl rfl rfl)⟩
                clear hP2
                clear hz hI
                go_simp
                rfl
              · obtain rfl := Option.some.inj (show some _ = some o from ho)
                obtain ⟨y10, hy10⟩ := hdep ⟨10, .data⟩ (by simp) rfl
                have s10 := slotE (hNew 10 69 _ y10 rfl rfl (by kernel_rfl) hy10)
                rw [(hI.ok 10 y10 hy10).f _ rfl] at s10
                refine aVal rfl rfl (v := .int .i64 0) (w' := wc) ?_ ⟨_, rfl, hI.val hn (by decide) (qlF rfl rfl rfl)⟩
                go_simp
            · intro vals wc hall hI
              refine NoPanic.normal ?_
              obtain ⟨y0, h0⟩ := hall 0 (by decide)
              obtain ⟨y1, h1⟩ := hall 1 (by decide)
              obtain ⟨y2, h2⟩ := hall 2 (by decide)
              obtain ⟨y3, h3⟩ := hall 3 (by decide)
              obtain ⟨y4, h4⟩ := hall 4 (by decide)
              obtain ⟨y5, h5⟩ := hall 5 (by decide)
              obtain ⟨y6, h6⟩ := hall 6 (by decide)
              obtain ⟨y7, h7⟩ := hall 7 (by decide)
              obtain ⟨y8, h8⟩ := hall 8 (by decide)
              obtain ⟨y9, h9⟩ := hall 9 (by decide)
              obtain ⟨y10, h10⟩ := hall 10 (by decide)
              obtain ⟨y11, h11⟩ := hall 11 (by decide)
              obtain ⟨y12, h12⟩ := hall 12 (by decide)
              obtain ⟨y13, h13⟩ := hall 13 (by decide)
              have q9 := (hI.ok 9 y9 h9).f _ rfl
              obtain ⟨P, rfl, -, hbP⟩ := hI.at_full (a := 11) (k := 12) (s := 9) (by decide) h12 h9 h11
              subst q9
              obtain rfl := (hI.ok 13 y13 h13).f _ rfl
              have HBP : Hid (wc.heap[P]? = some (.cells (valv nd) 32 (0, 0))) := Lib.hid hbP
              have HGC := Lib.hid hI.gr
              clear hbP
              simp only [putAll, putV, h0, h1, h2, h3, h4, h5, h6, h7, h8, h9, h10, h11, h12, h13]
              clear hI hall h0 h1 h2 h3 h4 h5 h6 h7 h8 h9 h10 h11 h12 h13
              simp only [Act.put, List.setIfInBounds_toArray, List.set_cons_zero, List.set_cons_succ]
              go_wp2_with fail
              go_meet
              exact ⟨P, rfl, rfl, Lib.hid ⟨HBP.out, HGC.out⟩⟩
          case rest =>
            obtain ⟨P3, rfl, rfl, hr⟩ := hcut
            rename World => w10
            have HB10 := Lib.hid hr.out.1
            have HG10 := Lib.hid hr.out.2
            have HS10 : Hid (LBox w10 w.heap.size u ∧ VBox w10 (w.heap.size + 1) p ∧ VBox w10 (w.heap.size + 1 + 1) q ∧ Gr w w10) := Lib.hid ⟨HS9.out.1.gr hr.out.2, HS9.out.2.1.gr hr.out.2, HS9.out.2.2.1.gr hr.out.2, HS9.out.2.2.2.trans hr.out.2⟩
            clear hr
            have y0 : w10.cell? ⟨P0, 0, none⟩ = some (.int .i64 na) := by rw [cell_of_block (gr_obj HG10.out (gr_obj HG9.out (gr_obj HG8.out HB7.out)))]; rfl
            have y1 : w10.cell? ⟨P1, 0, none⟩ = some (.int .i64 nb) := by rw [cell_of_block (gr_obj HG10.out (gr_obj HG9.out HB8.out))]; rfl
            have y2 : w10.cell? ⟨P2, 0, none⟩ = some (.int .i64 nc) := by rw [cell_of_block (gr_obj HG10.out HB9.out)]; rfl
            have y3 : w10.cell? ⟨P3, 0, none⟩ = some (.int .i64 nd) := by rw [cell_of_block HB10.out]; rfl
            have hsum := HSUM.out
            go_upto_region 10 with (fail)
            go_wp2_with fail
            go_ret
            exact ⟨rfl, HS10.out.2.2.2⟩
end Go.Proofs.Ythbkbpodiebhgaa
