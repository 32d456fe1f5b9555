/- The law CutCloses. -/
import Derived.Test.YthbkbpodiebhgaaCutK
import Derived.Test.YthbkbpodiebhgaaCutN
import Derived.Test.YthbkbpodiebhgaaInvR
namespace Go.Proofs.Ythbkbpodiebhgaa
open Go.RowKit Go.Joins

theorem close_ex (l : LG) (v0 : Nat → Nat) (hs0 : leqB v0 (sizeV l) = true) : ∀ (n : Nat) (v : Nat → Nat), sumV v ≤ n → ClI l v0 v → ∃ c, IsClose l v0 c := by
  intro n
  induction n with
  | zero =>
    intro v hn hi
    have hz : ∀ j, j < 8 → v j = 0 := fun j hj => by
      have h1 := sumTo_upd (v := v) (k := j) (x := 0) (n := 8) hj
      unfold sumV at hn
      omega
    exact ⟨v, close_done (fun j hj => .inl (hz j hj)) (lq_trans hi.le hs0), hi.le, hi.up⟩
  | succ n ih =>
    intro v hn hi
    by_cases hall : ∀ j, j < 8 → fine l v j
    · exact ⟨v, close_done hall (lq_trans hi.le hs0), hi.le, hi.up⟩
    · obtain ⟨k, hk⟩ := Classical.not_forall.1 hall
      obtain ⟨h8, hnf⟩ := Classical.not_imp.1 hk
      have h1 : v k ≠ 0 := fun e => hnf (.inl e)
      have h2 : leqB (needV (l k) (v k)) v = false := by
        rw [Bool.eq_false_iff]
        exact fun e => hnf (.inr e)
      have h3 := sumTo_upd (v := v) (k := k) (x := v k - 1) (n := 8) h8
      refine ih (upd v k (v k - 1)) (by unfold sumV at hn ⊢; omega) ⟨lq_of fun j hj => ?_, close_step (lq_trans hi.le hs0) h8 hi.up h2⟩
      have h4 := lq hi.le hj
      unfold upd
      by_cases q : j = k
      · subst q; rw [if_pos rfl]; omega
      · rw [if_neg q]; exact h4
theorem close_is (l : LG) (v : Nat → Nat) : ∃ c, IsClose l v c := by
  obtain ⟨c, hc⟩ := close_ex l (mt v (sizeV l)) (mt_le v l) _ _ (Nat.le_refl _) ⟨lq_refl _, fun _ _ h => h⟩
  refine ⟨c, hc.closed, lq_trans hc.within (lq_of fun _ _ => Nat.min_le_left _ _), fun u hu huv => hc.great u hu (lq_of fun i hi => ?_)⟩
  have h1 := lq huv hi
  have h2 : u i ≤ sizeV l i := lq hu.1 hi
  show _ ≤ min _ _
  omega
noncomputable def closeV (l : LG) (v : Nat → Nat) : Nat → Nat := Classical.choose (close_is l v)
theorem closeV_is (l : LG) (v : Nat → Nat) : IsClose l v (closeV l v) := Classical.choose_spec (close_is l v)
theorem vcells_congr {a b : Nat → Nat} (h : ∀ i, i < 8 → a i = b i) : vcells a = vcells b := by
  simp only [vcells, h 0 (by decide), h 1 (by decide), h 2 (by decide), h 3 (by decide), h 4 (by decide), h 5 (by decide), h 6 (by decide), h 7 (by decide)]
theorem close_eq {l : LG} {v c : Nat → Nat} (h : IsClose l v c) : vcells c = vcells (closeV l v) := vcells_congr fun i hi => by
  have k := closeV_is l v
  have h1 := lq (k.great c h.closed h.within) hi
  have h2 := lq (h.great _ k.closed k.within) hi
  omega
/-- What the region of the two calls of Close has left so far. -/
structure I9 (W : World) (F : Nat → Value) (p q : Nat → Nat) (vals : Vals) (w : World) : Prop where
  gr : Gr W w
  fx : ∀ k, k < 6 → ∀ y, vals k = some y → y = F k
  a : ∀ y, vals 6 = some y → ∃ b, y = .pointer (some ⟨b, 0, none⟩) ∧ W.heap.size ≤ b ∧ VBox w b (fun i => if (vals 8).isSome then p i else 0)
  b : ∀ y, vals 7 = some y → ∃ b, y = .pointer (some ⟨b, 0, none⟩) ∧ W.heap.size ≤ b ∧ VBox w b (fun i => if (vals 9).isSome then q i else 0)
  ne : ∀ b b', vals 6 = some (.pointer (some ⟨b, 0, none⟩)) → vals 7 = some (.pointer (some ⟨b', 0, none⟩)) → b ≠ b'
  sa : vals 6 = none → vals 8 = none
  sb : vals 7 = none → vals 9 = none
theorem I9.next {W : World} {F : Nat → Value} {p q : Nat → Nat} {vals : Vals} {w w' : World} (h : I9 W F p q vals w) (g : Gr w w') : I9 W F p q vals w' :=
  ⟨h.gr.trans g, h.fx, fun y hy => by obtain ⟨b, h1, h2, h3⟩ := h.a y hy; exact ⟨b, h1, h2, h3.gr g⟩, fun y hy => by obtain ⟨b, h1, h2, h3⟩ := h.b y hy; exact ⟨b, h1, h2, h3.gr g⟩, h.ne, h.sa, h.sb⟩
theorem I9.up {W : World} {F : Nat → Value} {p q : Nat → Nat} {vals : Vals} {w : World} (h : I9 W F p q vals w) {k : Nat} (hk : k < 6) : I9 W F p q (vals.up k (F k)) w := by
  have e : ∀ j, 6 ≤ j → vals.up k (F k) j = vals j := fun j hj => Vals.up_ne vals _ (by omega)
  refine ⟨h.gr, fun j hj y hy => ?_, ?_, ?_, ?_, ?_, ?_⟩
  · by_cases q : j = k
    · subst q
      rw [Vals.up_at] at hy
      injection hy with hy
      exact hy.symm
    · rw [Vals.up_ne vals _ q] at hy
      exact h.fx j hj y hy
  · rw [e 6 (by decide), e 8 (by decide)]; exact h.a
  · rw [e 7 (by decide), e 9 (by decide)]; exact h.b
  · rw [e 6 (by decide), e 7 (by decide)]; exact h.ne
  · rw [e 6 (by decide), e 8 (by decide)]; exact h.sa
  · rw [e 7 (by decide), e 9 (by decide)]; exact h.sb
theorem VBox.lt {w : World} {b : Nat} {a : Nat → Nat} (h : VBox w b a) : b < w.heap.size := (Array.getElem?_eq_some_iff.1 h.box).1
theorem I9.newA {W : World} {F : Nat → Value} {p q : Nat → Nat} {vals : Vals} {w : World} (h : I9 W F p q vals w) (hn : vals 6 = none) : I9 W F p q (vals.up 6 (.pointer (some ⟨w.heap.size, 0, none⟩))) (w.alloc (.cells V0 27)) := by
  have h1 := h.next ((Gr.refl w).alloc (.cells V0 27))
  have e : ∀ j, j ≠ 6 → vals.up 6 (.pointer (some ⟨w.heap.size, 0, none⟩)) j = vals j := fun j hj => Vals.up_ne vals _ hj
  refine ⟨h1.gr, fun j hj y hy => h.fx j hj y (by rw [← e j (by omega)]; exact hy), fun y hy => ?_, fun y hy => ?_, fun b b' hb hb' => ?_, fun hz => ?_, fun hz => ?_⟩
  · rw [Vals.up_at] at hy
    injection hy with hy
    refine ⟨w.heap.size, hy.symm, h.gr.size, ?_⟩
    rw [e 8 (by decide), h.sa hn]
    exact ⟨heap_alloc _ _ _⟩
  · rw [e 7 (by decide)] at hy
    obtain ⟨b, x1, x2, x3⟩ := h1.b y hy
    exact ⟨b, x1, x2, by rw [e 9 (by decide)]; exact x3⟩
  · rw [Vals.up_at] at hb
    rw [e 7 (by decide)] at hb'
    obtain ⟨b2, x1, _, x3⟩ := h.b _ hb'
    injection x1 with x1
    injection x1 with x1
    injection x1 with x1
    injection hb with hb
    injection hb with hb
    injection hb with hb
    injection hb with hb
    have := x3.lt
    omega
  · rw [Vals.up_at] at hz; cases hz
  · rw [e 7 (by decide)] at hz; rw [e 9 (by decide)]; exact h.sb hz
theorem I9.newB {W : World} {F : Nat → Value} {p q : Nat → Nat} {vals : Vals} {w : World} (h : I9 W F p q vals w) (hn : vals 7 = none) : I9 W F p q (vals.up 7 (.pointer (some ⟨w.heap.size, 0, none⟩))) (w.alloc (.cells V0 27)) := by
  have h1 := h.next ((Gr.refl w).alloc (.cells V0 27))
  have e : ∀ j, j ≠ 7 → vals.up 7 (.pointer (some ⟨w.heap.size, 0, none⟩)) j = vals j := fun j hj => Vals.up_ne vals _ hj
  refine ⟨h1.gr, fun j hj y hy => h.fx j hj y (by rw [← e j (by omega)]; exact hy), fun y hy => ?_, fun y hy => ?_, fun b b' hb hb' => ?_, fun hz => ?_, fun hz => ?_⟩
  · rw [e 6 (by decide)] at hy
    obtain ⟨b, x1, x2, x3⟩ := h1.a y hy
    exact ⟨b, x1, x2, by rw [e 8 (by decide)]; exact x3⟩
  · rw [Vals.up_at] at hy
    injection hy with hy
    refine ⟨w.heap.size, hy.symm, h.gr.size, ?_⟩
    rw [e 9 (by decide), h.sb hn]
    exact ⟨heap_alloc _ _ _⟩
  · rw [Vals.up_at] at hb'
    rw [e 6 (by decide)] at hb
    obtain ⟨b2, x1, _, x3⟩ := h.a _ hb
    injection x1 with x1
    injection x1 with x1
    injection x1 with x1
    injection hb' with hb'
    injection hb' with hb'
    injection hb' with hb'
    injection hb' with hb'
    have := x3.lt
    omega
  · rw [e 6 (by decide)] at hz; rw [e 8 (by decide)]; exact h.sa hz
  · rw [Vals.up_at] at hz; cases hz
theorem I9.putA {W : World} {F : Nat → Value} {p q : Nat → Nat} {vals : Vals} {w : World} {b : Nat} (h : I9 W F p q vals w) (hv : vals 6 = some (.pointer (some ⟨b, 0, none⟩))) : I9 W F p q (vals.up 8 undef) (putCells w b 0 (vcells p).toList) := by
  have e : ∀ j, j ≠ 8 → vals.up 8 undef j = vals j := fun j hj => Vals.up_ne vals _ hj
  obtain ⟨b1, x1, x2, x3⟩ := h.a _ hv
  injection x1 with x1
  injection x1 with x1
  injection x1 with x1
  subst x1
  obtain ⟨hk, hb⟩ := putV8 x3 p
  refine ⟨Gr.putCells x2 _ _ h.gr, fun j hj y hy => h.fx j hj y (by rw [← e j (by omega)]; exact hy), fun y hy => ?_, fun y hy => ?_, ?_, fun hz => ?_, fun hz => ?_⟩
  · rw [e 6 (by decide), hv] at hy
    injection hy with hy
    refine ⟨b, hy.symm, x2, ?_⟩
    rw [Vals.up_at]
    exact hb
  · rw [e 7 (by decide)] at hy
    obtain ⟨b2, y1, y2, y3⟩ := h.b y hy
    rw [e 9 (by decide)]
    subst y1
    exact ⟨b2, rfl, y2, ⟨by rw [hk _ (fun q => h.ne b b2 hv hy q.symm)]; exact y3.box⟩⟩
  · rw [e 6 (by decide), e 7 (by decide)]; exact h.ne
  · rw [e 6 (by decide), hv] at hz; cases hz
  · rw [e 7 (by decide)] at hz; rw [e 9 (by decide)]; exact h.sb hz
theorem I9.putB {W : World} {F : Nat → Value} {p q : Nat → Nat} {vals : Vals} {w : World} {b : Nat} (h : I9 W F p q vals w) (hv : vals 7 = some (.pointer (some ⟨b, 0, none⟩))) : I9 W F p q (vals.up 9 undef) (putCells w b 0 (vcells q).toList) := by
  have e : ∀ j, j ≠ 9 → vals.up 9 undef j = vals j := fun j hj => Vals.up_ne vals _ hj
  obtain ⟨b1, x1, x2, x3⟩ := h.b _ hv
  injection x1 with x1
  injection x1 with x1
  injection x1 with x1
  subst x1
  obtain ⟨hk, hb⟩ := putV8 x3 q
  refine ⟨Gr.putCells x2 _ _ h.gr, fun j hj y hy => h.fx j hj y (by rw [← e j (by omega)]; exact hy), fun y hy => ?_, fun y hy => ?_, ?_, fun hz => ?_, fun hz => ?_⟩
  · rw [e 6 (by decide)] at hy
    obtain ⟨b2, y1, y2, y3⟩ := h.a y hy
    rw [e 8 (by decide)]
    subst y1
    exact ⟨b2, rfl, y2, ⟨by rw [hk _ (h.ne b2 b hy hv)]; exact y3.box⟩⟩
  · rw [e 7 (by decide), hv] at hy
    injection hy with hy
    refine ⟨b, hy.symm, x2, ?_⟩
    rw [Vals.up_at]
    exact hb
  · rw [e 6 (by decide), e 7 (by decide)]; exact h.ne
  · rw [e 6 (by decide)] at hz; rw [e 8 (by decide)]; exact h.sa hz
  · rw [e 7 (by decide), hv] at hz; cases hz
theorem boxesCc (u : Nat → S3) (v x : Nat → Nat) (w : World) : ∃ W, W = ((w.alloc (.cells (lcells u) 24)).alloc (.cells (vcells v) 27)).alloc (.cells (vcells x) 27) ∧ Gr w W ∧
    LBox W w.heap.size u ∧ VBox W (w.heap.size + 1) v ∧ VBox W (w.heap.size + 1 + 1) x := by
  obtain ⟨W, hW, hg, hs, hL, hV⟩ := boxesLV u v w
  rw [← hW]
  have h1 := heap_alloc W (vcells x) 27
  rw [hs] at h1
  exact ⟨_, rfl, hg.alloc _, hL.gr ((Gr.refl _).alloc _), hV.gr ((Gr.refl _).alloc _), ⟨h1⟩⟩
theorem i9_start {w : World} {F : Nat → Value} {p q : Nat → Nat} : I9 w F p q (fun _ => none) w.drew :=
  ⟨(Gr.refl _).drew, fun _ _ _ h => (by cases h), fun _ h => (by cases h), fun _ h => (by cases h), fun _ _ h => (by cases h), fun _ => rfl, fun _ => rfl⟩
theorem slotE {A : Act} {t : Nat} {v : Value} (h : A.eval (.tmp t) = v) : A.tmps[t]?.getD undef = v := by
  rw [← Array.getD_eq_getD_getElem?]
  exact h
def F9 (u : Nat → S3) (v x p q : Nat → Nat) : Nat → Value
  | 0 => .agg (lcells u)
  | 1 => .agg (vcells v)
  | 2 => .agg (vcells p)
  | 3 => .agg (lcells u)
  | 4 => .agg (vcells x)
  | _ => .agg (vcells q)
end Go.Proofs.Ythbkbpodiebhgaa
