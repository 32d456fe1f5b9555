/- The law CutCloses. Walks: the predicate that unseen hands to DeleteFunc. -/
import Derived.Test.YtnjmgknicffcbaaGreatDoorZb36
import Derived.Test.YtnjmgknicffcbaaGreatDoorZb35
import Derived.Test.YtnjmgknicffcbaaGreatDoorZb24
import Derived.Test.YtnjmgknicffcbaaGreatDoorZb33
import Derived.Test.YtnjmgknicffcbaaGreatDoorZb32
import Derived.Test.YtnjmgknicffcbaaGreatDoorZb21
namespace Go.Proofs.YtnjmgknicffcbaaGreatDoor
open Go.RowKit Go.Joins

/-- What the region of the two calls of Close has left so far. -/
structure I9 (W : World) (F : Nat → Value) (p q : Nat → Nat) (vals : Vals) (w : World) : Prop where
  gr : Gr W w
  fx : ∀ k, k < 6 → ∀ y, vals k = some y → y = F k
  a : ∀ y, vals 6 = some y → ∃ b, y = .pointer (some ⟨b, 0, none⟩) ∧ W.heap.size ≤ b ∧ VBox w b (fun i => if (vals 8).isSome then p i else 0)
  b : ∀ y, vals 7 = some y → ∃ b, y = .pointer (some ⟨b, 0, none⟩) ∧ W.heap.size ≤ b ∧ VBox w b (fun i => if (vals 9).isSome then q i else 0)
  ne : ∀ b b', vals 6 = some (.pointer (some ⟨b, 0, none⟩)) → vals 7 = some (.pointer (some ⟨b', 0, none⟩)) → b ≠ b'
  sa : vals 6 = none → vals 8 = none
  sb : vals 7 = none → vals 9 = none
theorem I9.next {W : World} {F : Nat → Value} {p q : Nat → Nat} {vals : Vals} {w w' : World} (h : I9 W F p q vals w) (g : Gr w w') : I9 W F p q vals w' :=
  ⟨h.gr.trans g, h.fx, fun y hy => by obtain ⟨b, h1, h2, h3⟩ := h.a y hy; exact ⟨b, h1, h2, h3.gr g⟩, fun y hy => by obtain ⟨b, h1, h2, h3⟩ := h.b y hy; exact ⟨b, h1, h2, h3.gr g⟩, h.ne, h.sa, h.sb⟩
theorem I9.up {W : World} {F : Nat → Value} {p q : Nat → Nat} {vals : Vals} {w : World} (h : I9 W F p q vals w) {k : Nat} (hk : k < 6) : I9 W F p q (vals.up k (F k)) w := by
  have e : ∀ j, 6 ≤ j → vals.up k (F k) j = vals j := fun j hj => Vals.up_ne vals _ (by omega)
  refine ⟨h.gr, fun j hj y hy => ?_, ?_, ?_, ?_, ?_, ?_⟩
  · by_cases q : j = k
    · subst q
      rw [Vals.up_at] at hy
      injection hy with hy
      exact hy.symm
    · rw [Vals.up_ne vals _ q] at hy
      exact h.fx j hj y hy
  · rw [e 6 (by decide), e 8 (by decide)]; exact h.a
  · rw [e 7 (by decide), e 9 (by decide)]; exact h.b
  · rw [e 6 (by decide), e 7 (by decide)]; exact h.ne
  · rw [e 6 (by decide), e 8 (by decide)]; exact h.sa
  · rw [e 7 (by decide), e 9 (by decide)]; exact h.sb
theorem VBox.lt {w : World} {b : Nat} {a : Nat → Nat} (h : VBox w b a) : b < w.heap.size := (Array.getElem?_eq_some_iff.1 h.box).1
theorem I9.putA {W : World} {F : Nat → Value} {p q : Nat → Nat} {vals : Vals} {w : World} {b : Nat} (h : I9 W F p q vals w) (hv : vals 6 = some (.pointer (some ⟨b, 0, none⟩))) : I9 W F p q (vals.up 8 undef) (putCells w b 0 (vcells p).toList) := by
  have e : ∀ j, j ≠ 8 → vals.up 8 undef j = vals j := fun j hj => Vals.up_ne vals _ hj
  obtain ⟨b1, x1, x2, x3⟩ := h.a _ hv
  injection x1 with x1
  injection x1 with x1
  injection x1 with x1
  subst x1
  obtain ⟨hk, hb⟩ := putV8 x3 p
  refine ⟨Gr.putCells x2 _ _ h.gr, fun j hj y hy => h.fx j hj y (by rw [← e j (by omega)]; exact hy), fun y hy => ?_, fun y hy => ?_, ?_, fun hz => ?_, fun hz => ?_⟩
  · rw [e 6 (by decide), hv] at hy
    injection hy with hy
    refine ⟨b, hy.symm, x2, ?_⟩
    rw [Vals.up_at]
    exact hb
  · rw [e 7 (by decide)] at hy
    obtain ⟨b2, y1, y2, y3⟩ := h.b y hy
    rw [e 9 (by decide)]
    subst y1
    exact ⟨b2, rfl, y2, ⟨by rw [hk _ (fun q => h.ne b b2 hv hy q.symm)]; exact y3.box⟩⟩
  · rw [e 6 (by decide), e 7 (by decide)]; exact h.ne
  · rw [e 6 (by decide), hv] at hz; cases hz
  · rw [e 7 (by decide)] at hz; rw [e 9 (by decide)]; exact h.sb hz
theorem slotE {A : Act} {t : Nat} {v : Value} (h : A.eval (.tmp t) = v) : A.tmps[t]?.getD undef = v := by
  rw [← Array.getD_eq_getD_getElem?]
  exact h
end Go.Proofs.YtnjmgknicffcbaaGreatDoor
namespace Go.Proofs.YtnjmgknicffcbaaGreatDoor
open Go.RowKit Go.Joins
set_option linter.unusedSimpArgs false
set_option linter.unusedVariables false

/-- Whether a deed is seen: by what is counted of what it is about, or within its own transaction. -/
def unsD (F : ByteArray → Nat → Nat) (k : Int) (d : DD) : Bool := hasB (F (aboutT d.op)) d.t.origin d.t.seq || withinD k d
/-- A transaction's member and number lie at this place. -/
def HD (w : World) (b o : Nat) (t : TX) : Prop := w.cell? ⟨b, o, none⟩ = some (.int .i64 t.origin) ∧ w.cell? ⟨b, o + 1, none⟩ = some (.int .u64 (t.seq : Int))
theorem HD.gr {w w' : World} {b o : Nat} {t : TX} (h : HD w b o t) (g : Gr w w') : HD w' b o t := ⟨g.cell h.1, g.cell h.2⟩
theorem XCell.hcD {w : World} {b o : Nat} {t : TX} (h : XCell w b o t) : HD w b o t := by
  obtain ⟨v, -, x0, x1, -⟩ := h
  exact ⟨x0, x1⟩
def FU (bm : Nat) (dv o : Array Value) (s : ByteArray) (cv : Nat → Nat) : Nat → Option Value
  | 0 => some (.map (some bm))
  | 1 => some (.agg dv)
  | 2 => some (.agg o)
  | 3 => some (.string s)
  | 4 => some (.agg (vcells cv))
  | 5 => some (.agg (vcells cv))
  | _ => none
theorem ddbox (w : World) (d : DD) : ∃ W, W = w.alloc (.cells #[.pointer (some ⟨d.b, d.o, none⟩), .int .i64 (d.i : Int)] 225) ∧ Gr w W ∧ W.cell? ⟨w.heap.size, 0, none⟩ = some (.pointer (some ⟨d.b, d.o, none⟩)) ∧ W.cell? ⟨w.heap.size, 1, none⟩ = some (.int .i64 (d.i : Int)) := by
  refine ⟨_, rfl, (Gr.refl w).alloc _, ?_, ?_⟩
  · rw [World.cell?_alloc_at _ _ _ _ rfl]; rfl
  · rw [World.cell?_alloc_at _ _ _ _ rfl]; rfl
set_option maxRecDepth 100000 in
set_option maxHeartbeats 4000000 in
theorem unseen1_any (d : DD) (pa pb bm n : Nat) (F : ByteArray → Nat → Nat) (k : Int) (w : World) (h : DX w d) (hm : SeenM w bm n F) (ha : w.cell? ⟨pa, 0, none⟩ = some (.map (some bm))) (hb : w.cell? ⟨pb, 0, none⟩ = some (.int .i64 k)) (hs : (aboutT d.op).size ≤ maxLen) :
    Calls Tryz.prog 205 #[.agg #[.pointer (some ⟨d.b, d.o, none⟩), .int .i64 (d.i : Int)], .pointer (some ⟨pa, 0, none⟩), .pointer (some ⟨pb, 0, none⟩)] w fun e w' => e = .returned (.bool (unsD F k d)) ∧ Gr w w' := by
  obtain ⟨q, hq⟩ : ∃ q, q = unsD F k d := ⟨_, rfl⟩
  rw [← hq]
  obtain ⟨s, hse⟩ : ∃ s, s = aboutT d.op := ⟨_, rfl⟩
  rw [← hse] at hs
  obtain ⟨cv, hcv⟩ : ∃ c, c = F s := ⟨_, rfl⟩
  obtain ⟨q1, hq1⟩ : ∃ q, q = hasB cv d.t.origin d.t.seq := ⟨_, rfl⟩
  obtain ⟨q2, hq2⟩ : ∃ q, q = withinD k d := ⟨_, rfl⟩
  have HQ : Hid (q = (q1 || q2)) := Lib.hid (by rw [hq, hq1, hq2, hcv, hse]; rfl)
  obtain ⟨W, hW, hg, a0, a1⟩ := ddbox w d
  have HG := Lib.hid hg
  have HA := Lib.hid (And.intro a0 a1)
  have HOP := Lib.hid (fun w1 (g : Gr W w1) => dop_any d w1 ((h.gr hg).gr g))
  have HAB := Lib.hid (fun w1 => about_any d.op w1)
  rw [← hse] at HAB
  have HWI := Lib.hid (fun w1 (g : Gr W w1) => within_any d k w1 ((h.gr hg).gr g))
  rw [← hq2] at HWI
  have HHS := Lib.hid (fun w1 => has_any cv d.t.origin d.t.seq w1)
  rw [← hq1] at HHS
  have HLK := Lib.hid (fun w1 (g : Gr W w1) => SeenM.lookup ((hm.gr hg).gr g) s hs)
  rw [← hcv] at HLK
  have HPA := Lib.hid (hg.cell ha)
  have HPB := Lib.hid (hg.cell hb)
  obtain ⟨o, ho⟩ : ∃ o, o = d.op := ⟨_, rfl⟩
  rw [← ho] at HOP HAB
  have HX := Lib.hid ((h.gr hg).1.hcD)
  have hfd : ∀ w, (Instr.field 234 (.agg (vcells cv)) 0).run Tryz.prog w = .ok (.agg (vcells cv)) w := fun w => by show _ = _; kernel_rfl
  clear h hm ha hb hs hq hse hcv hq1 hq2 hg a0 a1 ho
  go_enter Tryz.func205, Tryz.ntmps205
  go_upto_region 1 with (fail)
  rw [← hW]
  clear hW
  refine wp_region_noPanic ?_
  refine iRegionA (RI btL W (QL (FU bm #[.pointer (some ⟨d.b, d.o, none⟩), .int .i64 (d.i : Int)] (opv o) s cv) (fun _ => none) (fun _ => none) W.heap.size) [(6, 7, 5)] (fun _ => 28) (fun _ => V0)) (by kernel_rfl) (by kernel_rfl) (ri_start QL.st (Gr.refl _)) ?_ ?_
  · intro i o ho vals wc A hI hn hdep hOld hNew
    have hi : i < 8 := (List.getElem?_eq_some_iff.1 ho).1
    obtain ⟨a0, a1⟩ : wc.cell? ⟨w.heap.size, 0, none⟩ = some (.pointer (some ⟨d.b, d.o, none⟩)) ∧ wc.cell? ⟨w.heap.size, 1, none⟩ = some (.int .i64 (d.i : Int)) := ⟨hI.gr.cell HA.out.1, hI.gr.cell HA.out.2⟩
    have pa0 := hI.gr.cell HPA.out
    have eo1 : A.tmps[1]?.getD undef = .pointer (some ⟨pa, 0, none⟩) := slotE (hOld 1 (by kernel_rfl))
    have eo3 : A.tmps[3]?.getD undef = .pointer (some ⟨w.heap.size, 0, none⟩) := slotE (hOld 3 (by kernel_rfl))
    obtain rfl | rfl | rfl | rfl | rfl | rfl | rfl | rfl : i = 0 ∨ i = 1 ∨ i = 2 ∨ i = 3 ∨ i = 4 ∨ i = 5 ∨ i = 6 ∨ i = 7 := by omega
    · obtain rfl := Option.some.inj (show some _ = some o from ho)
      refine aVal rfl rfl (v := .map (some bm)) (w' := wc) ?_ ⟨_, rfl, hI.val hn (by decide) (qlF rfl rfl rfl)⟩
      go_simp
    · obtain rfl := Option.some.inj (show some _ = some o from ho)
      refine aVal rfl rfl (v := .agg #[.pointer (some ⟨d.b, d.o, none⟩), .int .i64 (d.i : Int)]) (w' := wc) ?_ ⟨_, rfl, hI.val hn (by decide) (qlF rfl rfl rfl)⟩
      go_simp
    · obtain rfl := Option.some.inj (show some _ = some o from ho)
      obtain ⟨y1, hy1⟩ := hdep ⟨1, .data⟩ (by simp) rfl
      have s1 := slotE (hNew 1 7 _ y1 rfl rfl (by kernel_rfl) hy1)
      rw [(hI.ok 1 y1 hy1).f _ rfl] at s1
      refine aCall rfl rfl (w1 := wc) ?_ ((HOP.out wc hI.gr).mono fun e w' ⟨he, hg⟩ => ⟨_, he, _, rfl, (hI.next hg).val hn (by decide) (qlF rfl rfl rfl)⟩)
      go_simp
    · obtain rfl := Option.some.inj (show some _ = some o from ho)
      obtain ⟨y2, hy2⟩ := hdep ⟨2, .data⟩ (by simp) rfl
      have s2 := slotE (hNew 2 8 _ y2 rfl rfl (by kernel_rfl) hy2)
      rw [(hI.ok 2 y2 hy2).f _ rfl] at s2
      refine aCall rfl rfl (w1 := wc) ?_ ((HAB.out wc).mono fun e w' ⟨he, hg⟩ => ⟨_, he, _, rfl, (hI.next hg).val hn (by decide) (qlF rfl rfl rfl)⟩)
      go_simp
    · obtain rfl := Option.some.inj (show some _ = some o from ho)
      obtain ⟨y0, hy0⟩ := hdep ⟨0, .data⟩ (by simp) rfl
      have s0 := slotE (hNew 0 6 _ y0 rfl rfl (by kernel_rfl) hy0)
      rw [(hI.ok 0 y0 hy0).f _ rfl] at s0
      obtain ⟨y3, hy3⟩ := hdep ⟨3, .data⟩ (by simp) rfl
      have s3 := slotE (hNew 3 9 _ y3 rfl rfl (by kernel_rfl) hy3)
      rw [(hI.ok 3 y3 hy3).f _ rfl] at s3
      have hlk := HLK.out wc hI.gr
      refine aVal rfl rfl (v := .agg (vcells cv)) (w' := wc) ?_ ⟨_, rfl, hI.val hn (by decide) (qlF rfl rfl rfl)⟩
      go_simp
    · obtain rfl := Option.some.inj (show some _ = some o from ho)
      obtain ⟨y4, hy4⟩ := hdep ⟨4, .data⟩ (by simp) rfl
      have s4 := slotE (hNew 4 10 _ y4 rfl rfl (by kernel_rfl) hy4)
      rw [(hI.ok 4 y4 hy4).f _ rfl] at s4
      refine aVal rfl rfl (v := .agg (vcells cv)) (w' := wc) ?_ ⟨_, rfl, hI.val hn (by decide) (qlF rfl rfl rfl)⟩
      go_simp
    · obtain rfl := Option.some.inj (show some _ = some o from ho)
      refine aVal rfl rfl (v := .pointer (some ⟨wc.heap.size, 0, none⟩)) (w' := wc.alloc (.cells (V0) 28)) ?_ ⟨_, rfl, hI.new hn (by decide) rfl rfl (fun _ _ => qlN rfl rfl rfl)⟩
      go_simp
    · obtain rfl := Option.some.inj (show some _ = some o from ho)
      obtain ⟨y6, hy6⟩ := hdep ⟨6, .data⟩ (by simp) rfl
      obtain ⟨P, rfl, hP1, hP2⟩ := hI.at_new (a := 6) (k := 7) (s := 5) (by decide) hn hy6
      have s6 := slotE (hNew 6 5 _ _ rfl rfl (by kernel_rfl) hy6)
      obtain ⟨y5, hy5⟩ := hdep ⟨5, .data⟩ (by simp) rfl
      have s5 := slotE (hNew 5 11 _ y5 rfl rfl (by kernel_rfl) hy5)
      have q5 := (hI.ok 5 y5 hy5).f _ rfl
      subst q5
      have hz : VBox wc P (fun _ => 0) := ⟨hP2⟩
      obtain ⟨c0, c1, c2, c3, c4, c5, c6, c7⟩ := hz.zero
      obtain ⟨f0, f1, f2, f3, f4, f5, f6, f7⟩ := hz.fz
      refine aSkip rfl rfl (w' := putCells wc P 0 (vcells cv).toList) ?_ ⟨_, rfl, hI.putA (a := 6) (k := 7) (s := 5) (c := vcells cv) (by decide) hn (by decide) (by decide) (by decide) hy6 hy5 rfl (fun _ => qlN rfl rfl rfl)⟩
      clear hz hI
      go_simp
      rfl
  · intro vals wc hall hI
    refine NoPanic.normal ?_
    obtain ⟨y0, h0⟩ := hall 0 (by decide)
    obtain ⟨y1, h1⟩ := hall 1 (by decide)
    obtain ⟨y2, h2⟩ := hall 2 (by decide)
    obtain ⟨y3, h3⟩ := hall 3 (by decide)
    obtain ⟨y4, h4⟩ := hall 4 (by decide)
    obtain ⟨y5, h5⟩ := hall 5 (by decide)
    obtain ⟨y6, h6⟩ := hall 6 (by decide)
    obtain ⟨y7, h7⟩ := hall 7 (by decide)
    obtain ⟨P5, rfl, hpl, hbP⟩ := hI.at_full (a := 6) (k := 7) (s := 5) (by decide) h7 h5 h6
    obtain rfl := (hI.ok 5 y5 h5).f _ rfl
    have HB5 : Hid (VBox wc P5 cv) := Lib.hid ⟨hbP⟩
    have HG1 := Lib.hid hI.gr
    clear hbP hpl
    simp only [putAll, putV, h0, h1, h2, h3, h4, h5, h6, h7]
    clear hI hall h0 h1 h2 h3 h4 h5 h6 h7
    simp only [Act.put, List.setIfInBounds_toArray, List.set_cons_zero, List.set_cons_succ]
    have HV1 := Lib.hid HB5.out.vc
    have HA1 : Hid (wc.cell? ⟨w.heap.size, 0, none⟩ = some (.pointer (some ⟨d.b, d.o, none⟩)) ∧ wc.cell? ⟨w.heap.size, 1, none⟩ = some (.int .i64 (d.i : Int))) := Lib.hid ⟨HG1.out.cell HA.out.1, HG1.out.cell HA.out.2⟩
    have HX1 := Lib.hid (HX.out.gr HG1.out)
    have HP1 := Lib.hid (HG1.out.cell HPB.out)
    clear HA HX HPA HPB HLK HOP HAB HB5
    go_upto_region 2 with (fail)
    rcases q1 with _ | _
    ·
      refine qRegion (fun w' => VC w' P5 cv ∧ w'.cell? ⟨w.heap.size, 0, none⟩ = some (.pointer (some ⟨d.b, d.o, none⟩)) ∧ w'.cell? ⟨w.heap.size, 1, none⟩ = some (.int .i64 (d.i : Int)) ∧ HD w' d.b d.o d.t ∧ w'.cell? ⟨pb, 0, none⟩ = some (.int .i64 k) ∧ Gr W w') (by kernel_rfl) (by kernel_rfl) ⟨HV1.out.gr (Gr.refl _).drew, (Gr.refl _).drew.cell HA1.out.1, (Gr.refl _).drew.cell HA1.out.2, HX1.out.gr (Gr.refl _).drew, (Gr.refl _).drew.cell HP1.out, HG1.out.drew⟩ ?_
      iterate 11
        refine qTake (by kernel_rfl) ?_
        apply Exists.intro
        refine ⟨fun wq hq => ?_, ?_⟩
        · go_light
          obtain ⟨⟨v0, v1, v2, v3, v4, v5, v6, v7⟩, a0, a1, ⟨x0, x1⟩, b0, -⟩ := hq
          go_simp
          try with_reducible rfl
          done
        try simp only [Act.put, List.setIfInBounds_toArray, List.set_cons_zero, List.set_cons_succ]
      refine qCall (by kernel_rfl) ?_
      apply Exists.intro
      refine ⟨?_, ?_⟩
      · apply Exists.intro
        apply Exists.intro
        refine ⟨fun wq => ?_, fun wq hq => ?_⟩
        · go_light
          go_simp
          exact ⟨rfl, rfl⟩
        · exact (HHS.out wq).mono fun e w'' ⟨he, hg⟩ => ⟨he, hq.1.gr hg, hg.cell hq.2.1, hg.cell hq.2.2.1, hq.2.2.2.1.gr hg, hg.cell hq.2.2.2.2.1, hq.2.2.2.2.2.trans hg⟩
      try simp only [Act.put, List.setIfInBounds_toArray, List.set_cons_zero, List.set_cons_succ]
      iterate 3
        refine qTake (by kernel_rfl) ?_
        apply Exists.intro
        refine ⟨fun wq hq => ?_, ?_⟩
        · go_light
          obtain ⟨⟨v0, v1, v2, v3, v4, v5, v6, v7⟩, a0, a1, ⟨x0, x1⟩, b0, -⟩ := hq
          go_simp
          try with_reducible rfl
          done
        try simp only [Act.put, List.setIfInBounds_toArray, List.set_cons_zero, List.set_cons_succ]
      refine qCall (by kernel_rfl) ?_
      apply Exists.intro
      refine ⟨?_, ?_⟩
      · apply Exists.intro
        apply Exists.intro
        refine ⟨fun wq => ?_, fun wq hq => ?_⟩
        · go_light
          go_simp
          exact ⟨rfl, rfl⟩
        · exact (HWI.out wq hq.2.2.2.2.2).mono fun e w'' ⟨he, hg⟩ => ⟨he, hq.1.gr hg, hg.cell hq.2.1, hg.cell hq.2.2.1, hq.2.2.2.1.gr hg, hg.cell hq.2.2.2.2.1, hq.2.2.2.2.2.trans hg⟩
      try simp only [Act.put, List.setIfInBounds_toArray, List.set_cons_zero, List.set_cons_succ]
      iterate 2
        refine qTake (by kernel_rfl) ?_
        apply Exists.intro
        refine ⟨fun wq hq => ?_, ?_⟩
        · go_light
          obtain ⟨⟨v0, v1, v2, v3, v4, v5, v6, v7⟩, a0, a1, ⟨x0, x1⟩, b0, -⟩ := hq
          go_simp
          try with_reducible rfl
          done
        try simp only [Act.put, List.setIfInBounds_toArray, List.set_cons_zero, List.set_cons_succ]
      refine qNil ?_
      rintro w3 ⟨-, -, -, -, -, hg3⟩
      have HG3 := Lib.hid (HG.out.trans hg3)
      clear hg3
      go_wp2_with fail
      go_ret
      exact ⟨by rw [HQ.out]; rfl, HG3.out⟩
    ·
      refine qRegion (fun w' => VC w' P5 cv ∧ w'.cell? ⟨w.heap.size, 0, none⟩ = some (.pointer (some ⟨d.b, d.o, none⟩)) ∧ w'.cell? ⟨w.heap.size, 1, none⟩ = some (.int .i64 (d.i : Int)) ∧ HD w' d.b d.o d.t ∧ w'.cell? ⟨pb, 0, none⟩ = some (.int .i64 k) ∧ Gr W w') (by kernel_rfl) (by kernel_rfl) ⟨HV1.out.gr (Gr.refl _).drew, (Gr.refl _).drew.cell HA1.out.1, (Gr.refl _).drew.cell HA1.out.2, HX1.out.gr (Gr.refl _).drew, (Gr.refl _).drew.cell HP1.out, HG1.out.drew⟩ ?_
      iterate 11
        refine qTake (by kernel_rfl) ?_
        apply Exists.intro
        refine ⟨fun wq hq => ?_, ?_⟩
        · go_light
          obtain ⟨⟨v0, v1, v2, v3, v4, v5, v6, v7⟩, a0, a1, ⟨x0, x1⟩, b0, -⟩ := hq
          go_simp
          try with_reducible rfl
          done
        try simp only [Act.put, List.setIfInBounds_toArray, List.set_cons_zero, List.set_cons_succ]
      refine qCall (by kernel_rfl) ?_
      apply Exists.intro
      refine ⟨?_, ?_⟩
      · apply Exists.intro
        apply Exists.intro
        refine ⟨fun wq => ?_, fun wq hq => ?_⟩
        · go_light
          go_simp
          exact ⟨rfl, rfl⟩
        · exact (HHS.out wq).mono fun e w'' ⟨he, hg⟩ => ⟨he, hq.1.gr hg, hg.cell hq.2.1, hg.cell hq.2.2.1, hq.2.2.2.1.gr hg, hg.cell hq.2.2.2.2.1, hq.2.2.2.2.2.trans hg⟩
      try simp only [Act.put, List.setIfInBounds_toArray, List.set_cons_zero, List.set_cons_succ]
      iterate 1
        refine qTake (by kernel_rfl) ?_
        apply Exists.intro
        refine ⟨fun wq hq => ?_, ?_⟩
        · go_light
          obtain ⟨⟨v0, v1, v2, v3, v4, v5, v6, v7⟩, a0, a1, ⟨x0, x1⟩, b0, -⟩ := hq
          go_simp
          try with_reducible rfl
          done
        try simp only [Act.put, List.setIfInBounds_toArray, List.set_cons_zero, List.set_cons_succ]
      iterate 3
        refine qSkip (by kernel_rfl) ?_
        try simp only [Act.put, List.setIfInBounds_toArray, List.set_cons_zero, List.set_cons_succ]
      iterate 2
        refine qTake (by kernel_rfl) ?_
        apply Exists.intro
        refine ⟨fun wq hq => ?_, ?_⟩
        · go_light
          obtain ⟨⟨v0, v1, v2, v3, v4, v5, v6, v7⟩, a0, a1, ⟨x0, x1⟩, b0, -⟩ := hq
          go_simp
          try with_reducible rfl
          done
        try simp only [Act.put, List.setIfInBounds_toArray, List.set_cons_zero, List.set_cons_succ]
      refine qNil ?_
      rintro w3 ⟨-, -, -, -, -, hg3⟩
      have HG3 := Lib.hid (HG.out.trans hg3)
      clear hg3
      go_wp2_with fail
      go_ret
      exact ⟨by rw [HQ.out]; rfl, HG3.out⟩
end Go.Proofs.YtnjmgknicffcbaaGreatDoor
