/- The law CutCloses. -/
import Derived.Test.YtlgljanofppleaaCutK
import Derived.Test.YtlgljanofppleaaCutN
import Derived.Test.YtlgljanofppleaaInvR
namespace Go.Proofs.Ytlgljanofppleaa
open Go.RowKit Go.Joins

theorem close_ex (l : LG) (v0 : Nat → Nat) (hs0 : leqB v0 (sizeV l) = true) : ∀ (n : Nat) (v : Nat → Nat), sumV v ≤ n → ClI l v0 v → ∃ c, IsClose l v0 c := by
  intro n
  induction n with
  | zero =>
    intro v hn hi
    have hz : ∀ j, j < 8 → v j = 0 := fun j hj => by
      have h1 := sumTo_upd (v := v) (k := j) (x := 0) (n := 8) hj
      unfold sumV at hn
      omega
    exact ⟨v, close_done (fun j hj => .inl (hz j hj)) (lq_trans hi.le hs0), hi.le, hi.up⟩
  | succ n ih =>
    intro v hn hi
    by_cases hall : ∀ j, j < 8 → fine l v j
    · exact ⟨v, close_done hall (lq_trans hi.le hs0), hi.le, hi.up⟩
    · obtain ⟨k, hk⟩ := Classical.not_forall.1 hall
      obtain ⟨h8, hnf⟩ := Classical.not_imp.1 hk
      have h1 : v k ≠ 0 := fun e => hnf (.inl e)
      have h2 : leqB (needV (l k) (v k)) v = false := by
        rw [Bool.eq_false_iff]
        exact fun e => hnf (.inr e)
      have h3 := sumTo_upd (v := v) (k := k) (x := v k - 1) (n := 8) h8
      refine ih (upd v k (v k - 1)) (by unfold sumV at hn ⊢; omega) ⟨lq_of fun j hj => ?_, close_step (lq_trans hi.le hs0) h8 hi.up h2⟩
      have h4 := lq hi.le hj
      unfold upd
      by_cases q : j = k
      · subst q; rw [if_pos rfl]; omega
      · rw [if_neg q]; exact h4
theorem close_is (l : LG) (v : Nat → Nat) : ∃ c, IsClose l v c := by
  obtain ⟨c, hc⟩ := close_ex l (mt v (sizeV l)) (mt_le v l) _ _ (Nat.le_refl _) ⟨lq_refl _, fun _ _ h => h⟩
  refine ⟨c, hc.closed, lq_trans hc.within (lq_of fun _ _ => Nat.min_le_left _ _), fun u hu huv => hc.great u hu (lq_of fun i hi => ?_)⟩
  have h1 := lq huv hi
  have h2 : u i ≤ sizeV l i := lq hu.1 hi
  show _ ≤ min _ _
  omega
noncomputable def closeV (l : LG) (v : Nat → Nat) : Nat → Nat := Classical.choose (close_is l v)
theorem closeV_is (l : LG) (v : Nat → Nat) : IsClose l v (closeV l v) := Classical.choose_spec (close_is l v)
theorem vcells_congr {a b : Nat → Nat} (h : ∀ i, i < 8 → a i = b i) : vcells a = vcells b := by
  simp only [vcells, h 0 (by decide), h 1 (by decide), h 2 (by decide), h 3 (by decide), h 4 (by decide), h 5 (by decide), h 6 (by decide), h 7 (by decide)]
theorem close_eq {l : LG} {v c : Nat → Nat} (h : IsClose l v c) : vcells c = vcells (closeV l v) := vcells_congr fun i hi => by
  have k := closeV_is l v
  have h1 := lq (k.great c h.closed h.within) hi
  have h2 := lq (h.great _ k.closed k.within) hi
  omega
theorem close_det (u : Nat → S3) (l : LG) (v : Nat → Nat) (w : World) (h : LV w u l) (hf : ∀ i, i < 8 → (l i).length * 112 ≤ 140737488355328) :
    Calls Try.prog 19 #[.agg (lcells u), .agg (vcells v)] w fun e w' => e = .returned (.agg (vcells (closeV l v))) ∧ Gr w w' :=
  (close_any u l v w h hf).mono fun e w' ⟨c, he, hc, hg⟩ => ⟨by rw [he, close_eq hc], hg⟩

/-- What the region of the two calls of Close has left so far. -/
structure I9 (W : World) (F : Nat → Value) (p q : Nat → Nat) (vals : Vals) (w : World) : Prop where
  gr : Gr W w
  fx : ∀ k, k < 6 → ∀ y, vals k = some y → y = F k
  a : ∀ y, vals 6 = some y → ∃ b, y = .pointer (some ⟨b, 0, none⟩) ∧ W.heap.size ≤ b ∧ VBox w b (fun i => if (vals 8).isSome then p i else 0)
  b : ∀ y, vals 7 = some y → ∃ b, y = .pointer (some ⟨b, 0, none⟩) ∧ W.heap.size ≤ b ∧ VBox w b (fun i => if (vals 9).isSome then q i else 0)
  ne : ∀ b b', vals 6 = some (.pointer (some ⟨b, 0, none⟩)) → vals 7 = some (.pointer (some ⟨b', 0, none⟩)) → b ≠ b'
  sa : vals 6 = none → vals 8 = none
  sb : vals 7 = none → vals 9 = none
theorem I9.next {W : World} {F : Nat → Value} {p q : Nat → Nat} {vals : Vals} {w w' : World} (h : I9 W F p q vals w) (g : Gr w w') : I9 W F p q vals w' :=
  ⟨h.gr.trans g, h.fx, fun y hy => by obtain ⟨b, h1, h2, h3⟩ := h.a y hy; exact ⟨b, h1, h2, h3.gr g⟩, fun y hy => by obtain ⟨b, h1, h2, h3⟩ := h.b y hy; exact ⟨b, h1, h2, h3.gr g⟩, h.ne, h.sa, h.sb⟩
theorem I9.up {W : World} {F : Nat → Value} {p q : Nat → Nat} {vals : Vals} {w : World} (h : I9 W F p q vals w) {k : Nat} (hk : k < 6) : I9 W F p q (vals.up k (F k)) w := by
  have e : ∀ j, 6 ≤ j → vals.up k (F k) j = vals j := fun j hj => Vals.up_ne vals _ (by omega)
  refine ⟨h.gr, fun j hj y hy => ?_, ?_, ?_, ?_, ?_, ?_⟩
  · by_cases q : j = k
    · subst q
      rw [Vals.up_at] at hy
      injection hy with hy
      exact hy.symm
    · rw [Vals.up_ne vals _ q] at hy
      exact h.fx j hj y hy
  · rw [e 6 (by decide), e 8 (by decide)]; exact h.a
  · rw [e 7 (by decide), e 9 (by decide)]; exact h.b
  · rw [e 6 (by decide), e 7 (by decide)]; exact h.ne
  · rw [e 6 (by decide), e 8 (by decide)]; exact h.sa
  · rw [e 7 (by decide), e 9 (by decide)]; exact h.sb
theorem VBox.lt {w : World} {b : Nat} {a : Nat → Nat} (h : VBox w b a) : b < w.heap.size := (Array.getElem?_eq_some_iff.1 h.box).1
theorem I9.newA {W : World} {F : Nat → Value} {p q : Nat → Nat} {vals : Vals} {w : World} (h : I9 W F p q vals w) (hn : vals 6 = none) : I9 W F p q (vals.up 6 (.pointer (some ⟨w.heap.size, 0, none⟩))) (w.alloc (.cells V0 34)) := by
  have h1 := h.next ((Gr.refl w).alloc (.cells V0 34))
  have e : ∀ j, j ≠ 6 → vals.up 6 (.pointer (some ⟨w.heap.size, 0, none⟩)) j = vals j := fun j hj => Vals.up_ne vals _ hj
  refine ⟨h1.gr, fun j hj y hy => h.fx j hj y (by rw [← e j (by omega)]; exact hy), fun y hy => ?_, fun y hy => ?_, fun b b' hb hb' => ?_, fun hz => ?_, fun hz => ?_⟩
  · rw [Vals.up_at] at hy
    injection hy with hy
    refine ⟨w.heap.size, hy.symm, h.gr.size, ?_⟩
    rw [e 8 (by decide), h.sa hn]
    exact ⟨heap_alloc _ _ _⟩
  · rw [e 7 (by decide)] at hy
    obtain ⟨b, x1, x2, x3⟩ := h1.b y hy
    exact ⟨b, x1, x2, by rw [e 9 (by decide)]; exact x3⟩
  · rw [Vals.up_at] at hb
    rw [e 7 (by decide)] at hb'
    obtain ⟨b2, x1, _, x3⟩ := h.b _ hb'
    injection x1 with x1
    injection x1 with x1
    injection x1 with x1
    injection hb with hb
    injection hb with hb
    injection hb with hb
    injection hb with hb
    have := x3.lt
    omega
  · rw [Vals.up_at] at hz; cases hz
  · rw [e 7 (by decide)] at hz; rw [e 9 (by decide)]; exact h.sb hz
theorem I9.newB {W : World} {F : Nat → Value} {p q : Nat → Nat} {vals : Vals} {w : World} (h : I9 W F p q vals w) (hn : vals 7 = none) : I9 W F p q (vals.up 7 (.pointer (some ⟨w.heap.size, 0, none⟩))) (w.alloc (.cells V0 34)) := by
  have h1 := h.next ((Gr.refl w).alloc (.cells V0 34))
  have e : ∀ j, j ≠ 7 → vals.up 7 (.pointer (some ⟨w.heap.size, 0, none⟩)) j = vals j := fun j hj => Vals.up_ne vals _ hj
  refine ⟨h1.gr, fun j hj y hy => h.fx j hj y (by rw [← e j (by omega)]; exact hy), fun y hy => ?_, fun y hy => ?_, fun b b' hb hb' => ?_, fun hz => ?_, fun hz => ?_⟩
  · rw [e 6 (by decide)] at hy
    obtain ⟨b, x1, x2, x3⟩ := h1.a y hy
    exact ⟨b, x1, x2, by rw [e 8 (by decide)]; exact x3⟩
  · rw [Vals.up_at] at hy
    injection hy with hy
    refine ⟨w.heap.size, hy.symm, h.gr.size, ?_⟩
    rw [e 9 (by decide), h.sb hn]
    exact ⟨heap_alloc _ _ _⟩
  · rw [Vals.up_at] at hb'
    rw [e 6 (by decide)] at hb
    obtain ⟨b2, x1, _, x3⟩ := h.a _ hb
    injection x1 with x1
    injection x1 with x1
    injection x1 with x1
    injection hb' with hb'
    injection hb' with hb'
    injection hb' with hb'
    injection hb' with hb'
    have := x3.lt
    omega
  · rw [e 6 (by decide)] at hz; rw [e 8 (by decide)]; exact h.sa hz
  · rw [Vals.up_at] at hz; cases hz
theorem I9.putA {W : World} {F : Nat → Value} {p q : Nat → Nat} {vals : Vals} {w : World} {b : Nat} (h : I9 W F p q vals w) (hv : vals 6 = some (.pointer (some ⟨b, 0, none⟩))) : I9 W F p q (vals.up 8 undef) (putCells w b 0 (vcells p).toList) := by
  have e : ∀ j, j ≠ 8 → vals.up 8 undef j = vals j := fun j hj => Vals.up_ne vals _ hj
  obtain ⟨b1, x1, x2, x3⟩ := h.a _ hv
  injection x1 with x1
  injection x1 with x1
  injection x1 with x1
  subst x1
  obtain ⟨hk, hb⟩ := putV8 x3 p
  refine ⟨Gr.putCells x2 _ _ h.gr, fun j hj y hy => h.fx j hj y (by rw [← e j (by omega)]; exact hy), fun y hy => ?_, fun y hy => ?_, ?_, fun hz => ?_, fun hz => ?_⟩
  · rw [e 6 (by decide), hv] at hy
    injection hy with hy
    refine ⟨b, hy.symm, x2, ?_⟩
    rw [Vals.up_at]
    exact hb
  · rw [e 7 (by decide)] at hy
    obtain ⟨b2, y1, y2, y3⟩ := h.b y hy
    rw [e 9 (by decide)]
    subst y1
    exact ⟨b2, rfl, y2, ⟨by rw [hk _ (fun q => h.ne b b2 hv hy q.symm)]; exact y3.box⟩⟩
  · rw [e 6 (by decide), e 7 (by decide)]; exact h.ne
  · rw [e 6 (by decide), hv] at hz; cases hz
  · rw [e 7 (by decide)] at hz; rw [e 9 (by decide)]; exact h.sb hz
theorem I9.putB {W : World} {F : Nat → Value} {p q : Nat → Nat} {vals : Vals} {w : World} {b : Nat} (h : I9 W F p q vals w) (hv : vals 7 = some (.pointer (some ⟨b, 0, none⟩))) : I9 W F p q (vals.up 9 undef) (putCells w b 0 (vcells q).toList) := by
  have e : ∀ j, j ≠ 9 → vals.up 9 undef j = vals j := fun j hj => Vals.up_ne vals _ hj
  obtain ⟨b1, x1, x2, x3⟩ := h.b _ hv
  injection x1 with x1
  injection x1 with x1
  injection x1 with x1
  subst x1
  obtain ⟨hk, hb⟩ := putV8 x3 q
  refine ⟨Gr.putCells x2 _ _ h.gr, fun j hj y hy => h.fx j hj y (by rw [← e j (by omega)]; exact hy), fun y hy => ?_, fun y hy => ?_, ?_, fun hz => ?_, fun hz => ?_⟩
  · rw [e 6 (by decide)] at hy
    obtain ⟨b2, y1, y2, y3⟩ := h.a y hy
    rw [e 8 (by decide)]
    subst y1
    exact ⟨b2, rfl, y2, ⟨by rw [hk _ (h.ne b2 b hy hv)]; exact y3.box⟩⟩
  · rw [e 7 (by decide), hv] at hy
    injection hy with hy
    refine ⟨b, hy.symm, x2, ?_⟩
    rw [Vals.up_at]
    exact hb
  · rw [e 6 (by decide), e 7 (by decide)]; exact h.ne
  · rw [e 6 (by decide)] at hz; rw [e 8 (by decide)]; exact h.sa hz
  · rw [e 7 (by decide), hv] at hz; cases hz
theorem boxesCc (u : Nat → S3) (v x : Nat → Nat) (w : World) : ∃ W, W = ((w.alloc (.cells (lcells u) 24)).alloc (.cells (vcells v) 34)).alloc (.cells (vcells x) 34) ∧ Gr w W ∧
    LBox W w.heap.size u ∧ VBox W (w.heap.size + 1) v ∧ VBox W (w.heap.size + 1 + 1) x := by
  obtain ⟨W, hW, hg, hs, hL, hV⟩ := boxesLV u v w
  rw [← hW]
  have h1 := heap_alloc W (vcells x) 34
  rw [hs] at h1
  exact ⟨_, rfl, hg.alloc _, hL.gr ((Gr.refl _).alloc _), hV.gr ((Gr.refl _).alloc _), ⟨h1⟩⟩
theorem i9_start {w : World} {F : Nat → Value} {p q : Nat → Nat} : I9 w F p q (fun _ => none) w.drew :=
  ⟨(Gr.refl _).drew, fun _ _ _ h => (by cases h), fun _ h => (by cases h), fun _ h => (by cases h), fun _ _ h => (by cases h), fun _ => rfl, fun _ => rfl⟩
theorem slotE {A : Act} {t : Nat} {v : Value} (h : A.eval (.tmp t) = v) : A.tmps[t]?.getD undef = v := by
  rw [← Array.getD_eq_getD_getElem?]
  exact h
def F9 (u : Nat → S3) (v x p q : Nat → Nat) : Nat → Value
  | 0 => .agg (lcells u)
  | 1 => .agg (vcells v)
  | 2 => .agg (vcells p)
  | 3 => .agg (lcells u)
  | 4 => .agg (vcells x)
  | _ => .agg (vcells q)
set_option maxRecDepth 100000 in
set_option maxHeartbeats 4000000 in
theorem closes9_law (u : Nat → S3) (l : LG) (v x : Nat → Nat) (w : World) (h : LV w u l) (hf : FitL l) :
    Calls Try.prog 4 #[.agg (lcells u), .agg (vcells v), .agg (vcells x)] w fun e w' => e = .returned (.bool true) ∧ Gr w w' := by
  obtain ⟨W, hW, hg, hL, hV, hX⟩ := boxesCc u v x w
  have HL := Lib.hid hL
  have HV := Lib.hid hV
  have HX := Lib.hid hX
  have HG := Lib.hid hg
  have HLV := Lib.hid (h.gr hg)
  have hlen : ∀ i, i < 8 → (l i).length * 112 ≤ 140737488355328 := hf.c.len
  obtain ⟨p, hp⟩ : ∃ y, y = closeV l v := ⟨_, rfl⟩
  obtain ⟨q, hq⟩ : ∃ y, y = closeV l x := ⟨_, rfl⟩
  have HP : Hid (IsClose l v p) := Lib.hid (by rw [hp]; exact closeV_is l v)
  have HQ : Hid (IsClose l x q) := Lib.hid (by rw [hq]; exact closeV_is l x)
  have HC1 := Lib.hid (fun w1 (g : Gr W w1) => close_det u l v w1 ((h.gr hg).gr g) hlen)
  have HC2 := Lib.hid (fun w1 (g : Gr W w1) => close_det u l x w1 ((h.gr hg).gr g) hlen)
  rw [← hp] at HC1
  rw [← hq] at HC2
  clear h hf hL hV hX hg hlen hp hq
  go_enter Try.func4, Try.ntmps4
  go_upto_region 1 with (fail)
  rw [← hW]
  clear hW
  go_wp2_with fail
  refine (awake9_any W).mono ?_
  rintro e w1 ⟨rfl, g1⟩
  have HG1 := Lib.hid g1
  clear g1
  go_upto_region 3 with (fail)
  go_cut [7, 8] (fun s7 s8 wx => ∃ b c, s7 = .pointer (some ⟨b, 0, none⟩) ∧ s8 = .pointer (some ⟨c, 0, none⟩) ∧ VBox wx b p ∧ VBox wx c q ∧ Gr W wx)
  case first =>
    refine wp_region_noPanic ?_
    refine iRegionA (I9 w1 (F9 u v x p q) p q) (by kernel_rfl) (by kernel_rfl) i9_start ?_ ?_
    · intro i o ho vals wc A hI hn hdep hOld hNew
      have hi : i < 10 := (List.getElem?_eq_some_iff.1 ho).1
      have hL := HL.out.gr (HG1.out.trans hI.gr)
      have hV := HV.out.gr (HG1.out.trans hI.gr)
      have hX := HX.out.gr (HG1.out.trans hI.gr)
      obtain ⟨l0, l1, l2, l3, l4, l5, l6, l7⟩ := hL.all
      obtain ⟨v0, v1, v2, v3, v4, v5, v6, v7⟩ := hV.all
      obtain ⟨x0, x1, x2, x3, x4, x5, x6, x7⟩ := hX.all
      have e3 : A.tmps[3]?.getD undef = .pointer (some ⟨w.heap.size, 0, none⟩) := slotE (hOld 3 (by kernel_rfl))
      have e4 : A.tmps[4]?.getD undef = .pointer (some ⟨w.heap.size + 1, 0, none⟩) := slotE (hOld 4 (by kernel_rfl))
      have e5 : A.tmps[5]?.getD undef = .pointer (some ⟨w.heap.size + 1 + 1, 0, none⟩) := slotE (hOld 5 (by kernel_rfl))
      have hgc := HG1.out.trans hI.gr
      obtain rfl | rfl | rfl | rfl | rfl | rfl | rfl | rfl | rfl | rfl : i = 0 ∨ i = 1 ∨ i = 2 ∨ i = 3 ∨ i = 4 ∨ i = 5 ∨ i = 6 ∨ i = 7 ∨ i = 8 ∨ i = 9 := by omega
      · obtain rfl := Option.some.inj (show some _ = some o from ho)
        refine aVal rfl rfl (v := F9 u v x p q 0) (w' := wc) ?_ ⟨_, rfl, hI.up (by decide)⟩
        go_simp
        rfl
      · obtain rfl := Option.some.inj (show some _ = some o from ho)
        refine aVal rfl rfl (v := F9 u v x p q 1) (w' := wc) ?_ ⟨_, rfl, hI.up (by decide)⟩
        go_simp
        rfl
      · obtain rfl := Option.some.inj (show some _ = some o from ho)
        obtain ⟨y0, hy0⟩ := hdep ⟨0, .data⟩ (by simp) rfl
        obtain ⟨y1, hy1⟩ := hdep ⟨1, .data⟩ (by simp) rfl
        have s0 := slotE (hNew 0 11 _ y0 rfl rfl (by kernel_rfl) hy0)
        have s1 := slotE (hNew 1 12 _ y1 rfl rfl (by kernel_rfl) hy1)
        rw [hI.fx 0 (by decide) y0 hy0] at s0
        rw [hI.fx 1 (by decide) y1 hy1] at s1
        refine aCall rfl rfl (w1 := wc) ?_ ((HC1.out wc hgc).mono fun e w' ⟨he, hg⟩ => ⟨_, he, _, rfl, (hI.next hg).up (k := 2) (by decide)⟩)
        unfold F9 at s0 s1
        go_simp
      · obtain rfl := Option.some.inj (show some _ = some o from ho)
        refine aVal rfl rfl (v := F9 u v x p q 3) (w' := wc) ?_ ⟨_, rfl, hI.up (by decide)⟩
        go_simp
        rfl
      · obtain rfl := Option.some.inj (show some _ = some o from ho)
        refine aVal rfl rfl (v := F9 u v x p q 4) (w' := wc) ?_ ⟨_, rfl, hI.up (by decide)⟩
        go_simp
        rfl
      · obtain rfl := Option.some.inj (show some _ = some o from ho)
        obtain ⟨y0, hy0⟩ := hdep ⟨3, .data⟩ (by simp) rfl
        obtain ⟨y1, hy1⟩ := hdep ⟨4, .data⟩ (by simp) rfl
        have s0 := slotE (hNew 3 14 _ y0 rfl rfl (by kernel_rfl) hy0)
        have s1 := slotE (hNew 4 15 _ y1 rfl rfl (by kernel_rfl) hy1)
        rw [hI.fx 3 (by decide) y0 hy0] at s0
        rw [hI.fx 4 (by decide) y1 hy1] at s1
        refine aCall rfl rfl (w1 := wc) ?_ ((HC2.out wc hgc).mono fun e w' ⟨he, hg⟩ => ⟨_, he, _, rfl, (hI.next hg).up (k := 5) (by decide)⟩)
        unfold F9 at s0 s1
        go_simp
      · obtain rfl := Option.some.inj (show some _ = some o from ho)
        refine aVal rfl rfl (v := .pointer (some ⟨wc.heap.size, 0, none⟩)) (w' := wc.alloc (.cells V0 34)) ?_ ⟨_, rfl, hI.newA hn⟩
        go_simp
      · obtain rfl := Option.some.inj (show some _ = some o from ho)
        refine aVal rfl rfl (v := .pointer (some ⟨wc.heap.size, 0, none⟩)) (w' := wc.alloc (.cells V0 34)) ?_ ⟨_, rfl, hI.newB hn⟩
        go_simp
      · obtain rfl := Option.some.inj (show some _ = some o from ho)
        obtain ⟨y0, hy0⟩ := hdep ⟨6, .data⟩ (by simp) rfl
        obtain ⟨y1, hy1⟩ := hdep ⟨2, .data⟩ (by simp) rfl
        obtain ⟨b, rfl, hb1, hb2⟩ := hI.a y0 hy0
        have s0 := slotE (hNew 6 7 _ _ rfl rfl (by kernel_rfl) hy0)
        have s1 := slotE (hNew 2 13 _ y1 rfl rfl (by kernel_rfl) hy1)
        rw [hI.fx 2 (by decide) y1 hy1] at s1
        unfold F9 at s1
        obtain ⟨c0, c1, c2, c3, c4, c5, c6, c7⟩ := hb2.all
        obtain ⟨f0, f1, f2, f3, f4, f5, f6, f7⟩ := hb2.fz
        refine aSkip rfl rfl (w' := putCells wc b 0 (vcells p).toList) ?_ ⟨_, rfl, hI.putA hy0⟩
        clear hb2 hI
        go_simp
        rfl
      · obtain rfl := Option.some.inj (show some _ = some o from ho)
        obtain ⟨y0, hy0⟩ := hdep ⟨7, .data⟩ (by simp) rfl
        obtain ⟨y1, hy1⟩ := hdep ⟨5, .data⟩ (by simp) rfl
        obtain ⟨b, rfl, hb1, hb2⟩ := hI.b y0 hy0
        have s0 := slotE (hNew 7 8 _ _ rfl rfl (by kernel_rfl) hy0)
        have s1 := slotE (hNew 5 16 _ y1 rfl rfl (by kernel_rfl) hy1)
        rw [hI.fx 5 (by decide) y1 hy1] at s1
        unfold F9 at s1
        obtain ⟨c0, c1, c2, c3, c4, c5, c6, c7⟩ := hb2.all
        obtain ⟨f0, f1, f2, f3, f4, f5, f6, f7⟩ := hb2.fz
        refine aSkip rfl rfl (w' := putCells wc b 0 (vcells q).toList) ?_ ⟨_, rfl, hI.putB hy0⟩
        clear hb2 hI
        go_simp
        rfl
    · intro vals wc hall hI
      refine NoPanic.normal ?_
      obtain ⟨y0, h0⟩ := hall 0 (by decide)
      obtain ⟨y1, h1⟩ := hall 1 (by decide)
      obtain ⟨y2, h2⟩ := hall 2 (by decide)
      obtain ⟨y3, h3⟩ := hall 3 (by decide)
      obtain ⟨y4, h4⟩ := hall 4 (by decide)
      obtain ⟨y5, h5⟩ := hall 5 (by decide)
      obtain ⟨y6, h6⟩ := hall 6 (by decide)
      obtain ⟨y7, h7⟩ := hall 7 (by decide)
      obtain ⟨y8, h8⟩ := hall 8 (by decide)
      obtain ⟨y9, h9⟩ := hall 9 (by decide)
      obtain ⟨b, rfl, hb1, hb2⟩ := hI.a y6 h6
      obtain ⟨c, rfl, hc1, hc2⟩ := hI.b y7 h7
      have HB2 : Hid (VBox wc b p) := Lib.hid (by rw [h8] at hb2; exact hb2)
      have HC2 : Hid (VBox wc c q) := Lib.hid (by rw [h9] at hc2; exact hc2)
      have HGC := Lib.hid (HG1.out.trans hI.gr)
      simp only [putAll, putV, h0, h1, h2, h3, h4, h5, h6, h7, h8, h9]
      clear hI hb1 hb2 hc1 hc2 hall h0 h1 h2 h3 h4 h5 h6 h7 h8 h9
      simp only [Act.put, List.setIfInBounds_toArray, List.set_cons_zero, List.set_cons_succ]
      go_wp2_with fail
      go_meet
      exact ⟨b, c, rfl, rfl, HB2.out, HC2.out, HGC.out⟩
  case rest =>
    obtain ⟨b, c, rfl, rfl, hb, hc, hg⟩ := hcut
    rename World => w2
    have HB := Lib.hid hb
    have HC := Lib.hid hc
    have HG2 := Lib.hid hg
    have HD1 := Lib.hid (fun w1 (g : Gr W w1) => closed_any u l p w1 (HLV.out.gr g))
    have HD2 := Lib.hid (fun w1 (g : Gr W w1) => closed_any u l (jn p q) w1 (HLV.out.gr g))
    have HD3 := Lib.hid (fun w1 (g : Gr W w1) => closed_any u l (mt p q) w1 (HLV.out.gr g))
    rw [closedB_yes HP.out.closed] at HD1
    rw [closedB_yes (closed_jn HP.out.closed HQ.out.closed)] at HD2
    rw [closedB_yes (closed_mt HP.out.closed HQ.out.closed)] at HD3
    have HL1 := Lib.hid (fun w1 => rleq_any p v w1)
    rw [HP.out.within] at HL1
    have HJ := Lib.hid (fun w1 => rjoin_any p q w1)
    have HM := Lib.hid (fun w1 => rmeet_any p q w1)
    have HL2 := Lib.hid (fun w1 => rleq_any q v w1)
    have HL3 := Lib.hid (fun w1 => rleq_any q p w1)
    have HIMP : Hid (leqB q v = true → leqB q p = true) := Lib.hid (fun e => HP.out.great q HQ.out.closed e)
    clear hb hc hg
    go_upto_region 4 with (fail)
    refine qRegion (fun w' => LC w' w.heap.size u ∧ VC w' (w.heap.size + 1) v ∧ VC w' b p ∧ VC w' c q ∧ Gr w2 w') (by kernel_rfl) (by kernel_rfl) ⟨(HL.out.gr HG2.out).lc.gr (Gr.refl _).drew, (HV.out.gr HG2.out).vc.gr (Gr.refl _).drew, HB.out.vc.gr (Gr.refl _).drew, HC.out.vc.gr (Gr.refl _).drew, (Gr.refl _).drew⟩ ?_
    iterate 2
      refine qTake (by kernel_rfl) ?_
      apply Exists.intro
      refine ⟨fun wq hq => ?_, ?_⟩
      · go_light
        obtain ⟨⟨l0, l1, l2, l3, l4, l5, l6, l7⟩, ⟨v0, v1, v2, v3, v4, v5, v6, v7⟩, ⟨p0, p1, p2, p3, p4, p5, p6, p7⟩, ⟨q0, q1, q2, q3, q4, q5, q6, q7⟩, -⟩ := hq
        go_simp
        try with_reducible rfl
        done
      try simp only [Act.put, List.setIfInBounds_toArray, List.set_cons_zero, List.set_cons_succ]
    refine qCall (by kernel_rfl) ?_
    apply Exists.intro
    refine ⟨?_, ?_⟩
    · apply Exists.intro
      apply Exists.intro
      refine ⟨fun wq => ?_, fun wq hq => ?_⟩
      · go_light
        go_simp
        exact ⟨rfl, rfl⟩
      · exact (HD1.out wq (HG2.out.trans hq.2.2.2.2)).mono fun e w'' ⟨he, hg⟩ => ⟨he, hq.1.gr hg, hq.2.1.gr hg, hq.2.2.1.gr hg, hq.2.2.2.1.gr hg, hq.2.2.2.2.trans hg⟩
    try simp only [Act.put, List.setIfInBounds_toArray, List.set_cons_zero, List.set_cons_succ]
    iterate 4
      refine qTake (by kernel_rfl) ?_
      apply Exists.intro
      refine ⟨fun wq hq => ?_, ?_⟩
      · go_light
        obtain ⟨⟨l0, l1, l2, l3, l4, l5, l6, l7⟩, ⟨v0, v1, v2, v3, v4, v5, v6, v7⟩, ⟨p0, p1, p2, p3, p4, p5, p6, p7⟩, ⟨q0, q1, q2, q3, q4, q5, q6, q7⟩, -⟩ := hq
        go_simp
        try with_reducible rfl
        done
      try simp only [Act.put, List.setIfInBounds_toArray, List.set_cons_zero, List.set_cons_succ]
    refine qCall (by kernel_rfl) ?_
    apply Exists.intro
    refine ⟨?_, ?_⟩
    · apply Exists.intro
      apply Exists.intro
      refine ⟨fun wq => ?_, fun wq hq => ?_⟩
      · go_light
        go_simp
        exact ⟨rfl, rfl⟩
      · exact (HL1.out wq).mono fun e w'' ⟨he, hg⟩ => ⟨he, hq.1.gr hg, hq.2.1.gr hg, hq.2.2.1.gr hg, hq.2.2.2.1.gr hg, hq.2.2.2.2.trans hg⟩
    try simp only [Act.put, List.setIfInBounds_toArray, List.set_cons_zero, List.set_cons_succ]
    iterate 6
      refine qTake (by kernel_rfl) ?_
      apply Exists.intro
      refine ⟨fun wq hq => ?_, ?_⟩
      · go_light
        obtain ⟨⟨l0, l1, l2, l3, l4, l5, l6, l7⟩, ⟨v0, v1, v2, v3, v4, v5, v6, v7⟩, ⟨p0, p1, p2, p3, p4, p5, p6, p7⟩, ⟨q0, q1, q2, q3, q4, q5, q6, q7⟩, -⟩ := hq
        go_simp
        try with_reducible rfl
        done
      try simp only [Act.put, List.setIfInBounds_toArray, List.set_cons_zero, List.set_cons_succ]
    refine qCall (by kernel_rfl) ?_
    apply Exists.intro
    refine ⟨?_, ?_⟩
    · apply Exists.intro
      apply Exists.intro
      refine ⟨fun wq => ?_, fun wq hq => ?_⟩
      · go_light
        go_simp
        exact ⟨rfl, rfl⟩
      · exact (HJ.out wq).mono fun e w'' ⟨he, hg⟩ => ⟨he, hq.1.gr hg, hq.2.1.gr hg, hq.2.2.1.gr hg, hq.2.2.2.1.gr hg, hq.2.2.2.2.trans hg⟩
    try simp only [Act.put, List.setIfInBounds_toArray, List.set_cons_zero, List.set_cons_succ]
    refine qCall (by kernel_rfl) ?_
    apply Exists.intro
    refine ⟨?_, ?_⟩
    · apply Exists.intro
      apply Exists.intro
      refine ⟨fun wq => ?_, fun wq hq => ?_⟩
      · go_light
        go_simp
        exact ⟨rfl, rfl⟩
      · exact (HD2.out wq (HG2.out.trans hq.2.2.2.2)).mono fun e w'' ⟨he, hg⟩ => ⟨he, hq.1.gr hg, hq.2.1.gr hg, hq.2.2.1.gr hg, hq.2.2.2.1.gr hg, hq.2.2.2.2.trans hg⟩
    try simp only [Act.put, List.setIfInBounds_toArray, List.set_cons_zero, List.set_cons_succ]
    iterate 6
      refine qTake (by kernel_rfl) ?_
      apply Exists.intro
      refine ⟨fun wq hq => ?_, ?_⟩
      · go_light
        obtain ⟨⟨l0, l1, l2, l3, l4, l5, l6, l7⟩, ⟨v0, v1, v2, v3, v4, v5, v6, v7⟩, ⟨p0, p1, p2, p3, p4, p5, p6, p7⟩, ⟨q0, q1, q2, q3, q4, q5, q6, q7⟩, -⟩ := hq
        go_simp
        try with_reducible rfl
        done
      try simp only [Act.put, List.setIfInBounds_toArray, List.set_cons_zero, List.set_cons_succ]
    refine qCall (by kernel_rfl) ?_
    apply Exists.intro
    refine ⟨?_, ?_⟩
    · apply Exists.intro
      apply Exists.intro
      refine ⟨fun wq => ?_, fun wq hq => ?_⟩
      · go_light
        go_simp
        exact ⟨rfl, rfl⟩
      · exact (HM.out wq).mono fun e w'' ⟨he, hg⟩ => ⟨he, hq.1.gr hg, hq.2.1.gr hg, hq.2.2.1.gr hg, hq.2.2.2.1.gr hg, hq.2.2.2.2.trans hg⟩
    try simp only [Act.put, List.setIfInBounds_toArray, List.set_cons_zero, List.set_cons_succ]
    refine qCall (by kernel_rfl) ?_
    apply Exists.intro
    refine ⟨?_, ?_⟩
    · apply Exists.intro
      apply Exists.intro
      refine ⟨fun wq => ?_, fun wq hq => ?_⟩
      · go_light
        go_simp
        exact ⟨rfl, rfl⟩
      · exact (HD3.out wq (HG2.out.trans hq.2.2.2.2)).mono fun e w'' ⟨he, hg⟩ => ⟨he, hq.1.gr hg, hq.2.1.gr hg, hq.2.2.1.gr hg, hq.2.2.2.1.gr hg, hq.2.2.2.2.trans hg⟩
    try simp only [Act.put, List.setIfInBounds_toArray, List.set_cons_zero, List.set_cons_succ]
    iterate 2
      refine qTake (by kernel_rfl) ?_
      apply Exists.intro
      refine ⟨fun wq hq => ?_, ?_⟩
      · go_light
        obtain ⟨⟨l0, l1, l2, l3, l4, l5, l6, l7⟩, ⟨v0, v1, v2, v3, v4, v5, v6, v7⟩, ⟨p0, p1, p2, p3, p4, p5, p6, p7⟩, ⟨q0, q1, q2, q3, q4, q5, q6, q7⟩, -⟩ := hq
        go_simp
        try with_reducible rfl
        done
      try simp only [Act.put, List.setIfInBounds_toArray, List.set_cons_zero, List.set_cons_succ]
    refine qNil ?_
    rintro w3 ⟨-, hv3, hp3, hq3, hg3⟩
    have HG3 := Lib.hid (HG2.out.trans hg3)
    have HV3 := Lib.hid hv3
    have HP3 := Lib.hid hp3
    have HQ3 := Lib.hid hq3
    obtain ⟨v0, v1, v2, v3, v4, v5, v6, v7⟩ := hv3
    obtain ⟨q0, q1, q2, q3, q4, q5, q6, q7⟩ := hq3
    obtain ⟨r, hr⟩ : ∃ r, r = leqB q v := ⟨_, rfl⟩
    rw [← hr] at HL2 HIMP
    clear hg3 hp3 hr
    rcases r with _ | _
    · go_wp2_with fail
      refine (HL2.out _).mono ?_
      rintro e w4 ⟨rfl, g4⟩
      clear v0 v1 v2 v3 v4 v5 v6 v7 q0 q1 q2 q3 q4 q5 q6 q7
      go_wp2_with fail
      go_ret
      exact ⟨rfl, HG.out.trans (HG3.out.trans g4)⟩
    · rw [HIMP.out rfl] at HL3
      go_wp2_with fail
      refine (HL2.out _).mono ?_
      rintro e w4 ⟨rfl, g4⟩
      have HG4 := Lib.hid g4
      obtain ⟨q0, q1, q2, q3, q4, q5, q6, q7⟩ := HQ3.out.gr g4
      obtain ⟨p0, p1, p2, p3, p4, p5, p6, p7⟩ := HP3.out.gr g4
      clear g4 v0 v1 v2 v3 v4 v5 v6 v7
      go_wp2_with fail
      refine (HL3.out _).mono ?_
      rintro e w5 ⟨rfl, g5⟩
      clear q0 q1 q2 q3 q4 q5 q6 q7 p0 p1 p2 p3 p4 p5 p6 p7
      go_wp2_with fail
      go_ret
      exact ⟨rfl, HG.out.trans (HG3.out.trans (HG4.out.trans g5))⟩
end Go.Proofs.Ytlgljanofppleaa
