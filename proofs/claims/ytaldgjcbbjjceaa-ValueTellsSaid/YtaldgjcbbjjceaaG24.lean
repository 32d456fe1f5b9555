/- Texts CutK, CutN, CutO, ValK, joined. -/
import Derived.Test.YtaldgjcbbjjceaaG23
import Derived.Deep.LoopGhost
import Derived.Test.YtaldgjcbbjjceaaG22
import Derived.Test.YtaldgjcbbjjceaaG09
import Derived.Test.YtaldgjcbbjjceaaG20
import Derived.Test.YtaldgjcbbjjceaaG08
/- Walks: the program's Close. -/
namespace Go.Proofs.Ytaldgjcbbjjceaa
open Go.RowKit Go.Joins

def sumTo (v : Nat → Nat) : Nat → Nat
  | 0 => 0
  | k + 1 => sumTo v k + v k
def sumV (v : Nat → Nat) : Nat := sumTo v 8
theorem sumTo_past {v : Nat → Nat} {k x : Nat} : ∀ {n : Nat}, n ≤ k → sumTo (upd v k x) n = sumTo v n
  | 0, _ => rfl
  | n + 1, h => by
    show sumTo (upd v k x) n + upd v k x n = sumTo v n + v n
    rw [sumTo_past (n := n) (by omega)]
    unfold upd
    rw [if_neg (by omega)]
theorem sumTo_upd {v : Nat → Nat} {k x : Nat} : ∀ {n : Nat}, k < n → sumTo (upd v k x) n + v k = sumTo v n + x
  | 0, h => by omega
  | n + 1, h => by
    show sumTo (upd v k x) n + upd v k x n + v k = sumTo v n + v n + x
    by_cases e : k = n
    · subst e
      rw [sumTo_past (Nat.le_refl _)]
      unfold upd
      rw [if_pos rfl]
      omega
    · have ih := sumTo_upd (v := v) (k := k) (x := x) (n := n) (by omega)
      have : upd v k x n = v n := if_neg (fun q => e q.symm)
      rw [this]
      omega
/-- The cut's last transaction of member j, and all ahead of it, depend on nothing beyond the cut. -/
def fine (l : LG) (v : Nat → Nat) (j : Nat) : Prop := v j = 0 ∨ leqB (needV (l j) (v j)) v = true
theorem close_done {l : LG} {v : Nat → Nat} (h : ∀ j, j < 8 → fine l v j) (hs : leqB v (sizeV l) = true) : closedP l v := by
  refine ⟨hs, fun i k t hi hk ht => ?_⟩
  rcases h i hi with h0 | h0
  · omega
  · exact (needV_le (lq hs hi)).1 h0 k t hk ht
theorem close_step {l : LG} {v0 v : Nat → Nat} {k : Nat} (hs : leqB v (sizeV l) = true) (hk : k < 8) (h : ∀ u, closedP l u → leqB u v0 = true → leqB u v = true) (hn : leqB (needV (l k) (v k)) v = false) : ∀ u, closedP l u → leqB u v0 = true → leqB u (upd v k (v k - 1)) = true := by
  intro u hu h0
  have h1 := h u hu h0
  refine lq_of fun j hj => ?_
  unfold upd
  by_cases e : j = k
  · subst e
    rw [if_pos rfl]
    have h2 := lq h1 hj
    rcases Nat.lt_or_ge (u j) (v j) with q | q
    · omega
    · exfalso
      have e2 : u j = v j := by omega
      have : leqB (needV (l j) (v j)) v = true := (needV_le (lq hs hj)).2 fun d t hd ht => lq_trans (hu.2 j d t hj (by omega) ht) h1
      rw [hn] at this
      cases this
  · rw [if_neg e]
    exact lq h1 hj
theorem boxesCl (u : Nat → S3) (v : Nat → Nat) (w : World) : ∃ W, W = ((w.alloc (.cells (lcells u) 24)).alloc (.cells (vcells v) 27)).alloc (.cells V0 27) ∧ Gr w W ∧ W.heap.size = w.heap.size + 3 ∧
    LBox W w.heap.size u ∧ VBox W (w.heap.size + 1) v ∧ VBox W (w.heap.size + 1 + 1) (fun _ => 0) := by
  obtain ⟨W, hW, hg, hs, hL, hV⟩ := boxesLV u v w
  rw [← hW]
  have h1 := heap_alloc W V0 27
  rw [hs] at h1
  exact ⟨_, rfl, hg.alloc _, by simp [hs], hL.gr ((Gr.refl _).alloc _), hV.gr ((Gr.refl _).alloc _), ⟨h1⟩⟩
/-- The cut is within the first one, and no closed cut within that is above it. -/
structure ClI (l : LG) (v0 v : Nat → Nat) : Prop where
  le : leqB v v0 = true
  up : ∀ u, closedP l u → leqB u v0 = true → leqB u v = true
/-- Eight cells of a vector at this place. -/
def VCo (w : World) (b o : Nat) (a : Nat → Nat) : Prop := w.cell? ⟨b, o, none⟩ = some (.int .u64 (a 0 : Int)) ∧ w.cell? ⟨b, o + 1, none⟩ = some (.int .u64 (a 1 : Int)) ∧ w.cell? ⟨b, o + 2, none⟩ = some (.int .u64 (a 2 : Int)) ∧ w.cell? ⟨b, o + 3, none⟩ = some (.int .u64 (a 3 : Int)) ∧ w.cell? ⟨b, o + 4, none⟩ = some (.int .u64 (a 4 : Int)) ∧ w.cell? ⟨b, o + 5, none⟩ = some (.int .u64 (a 5 : Int)) ∧ w.cell? ⟨b, o + 6, none⟩ = some (.int .u64 (a 6 : Int)) ∧ w.cell? ⟨b, o + 7, none⟩ = some (.int .u64 (a 7 : Int))
theorem VCo.gr {w w' : World} {b o : Nat} {a : Nat → Nat} (h : VCo w b o a) (g : Gr w w') : VCo w' b o a := by
  obtain ⟨h0, h1, h2, h3, h4, h5, h6, h7⟩ := h
  exact ⟨g.cell h0, g.cell h1, g.cell h2, g.cell h3, g.cell h4, g.cell h5, g.cell h6, g.cell h7⟩
theorem vco_row {w : World} {B g n c : Nat} {f : Nat → Nat → Nat} (h : w.ownsRow B 27 8 (.slice (some ⟨g, 0, none⟩) n c) n (vrows f n)) {k : Nat} (hk : k < n) : VCo w g (k * 8) (f k) :=
  ⟨vrow_cells h hk (r := 0) (by decide), vrow_cells h hk (r := 1) (by decide), vrow_cells h hk (r := 2) (by decide), vrow_cells h hk (r := 3) (by decide), vrow_cells h hk (r := 4) (by decide), vrow_cells h hk (r := 5) (by decide), vrow_cells h hk (r := 6) (by decide), vrow_cells h hk (r := 7) (by decide)⟩
theorem mt_le (v : Nat → Nat) (l : LG) : leqB (mt v (sizeV l)) (sizeV l) = true := lq_of fun _ _ => Nat.min_le_right _ _

end Go.Proofs.Ytaldgjcbbjjceaa
/- Walks: the laws' own awake. -/
namespace Go.Proofs.Ytaldgjcbbjjceaa
open Go.RowKit Go.Joins

def op9 : TO := ⟨1, ⟨#[97]⟩, ⟨#[]⟩, 5⟩
def t91 : TX := ⟨0, 1, 1, fun _ => 0, [op9]⟩
def e91 : Nat → Nat | 0 => 1 | _ => 0
def t92 : TX := ⟨1, 1, 2, e91, [op9]⟩
def l91 : LG := addL nilL 0 t91
def l92 : LG := addL l91 1 t92
def c91 : Nat → Nat | 1 => 1 | _ => 0
def c92 : Nat → Nat | 0 => 1 | 1 => 1 | _ => 0
theorem add91 : addR nilL t91 = (0, l91) := by kernel_rfl
theorem add92 : addR l91 t92 = (0, l92) := by kernel_rfl
theorem clo91 : closedB l92 c91 = false := by kernel_rfl
theorem clo92 : closedB l92 c92 = true := by kernel_rfl
theorem fit91 : op9.key.size ≤ 281474976710656 ∧ op9.elem.size ≤ 281474976710656 := by decide
theorem fitT {t : TX} (h : t.ops = [op9]) : t.ops.length * 48 ≤ 140737488355328 ∧ ∀ o ∈ t.ops, o.key.size ≤ 281474976710656 ∧ o.elem.size ≤ 281474976710656 := by
  rw [h]
  refine ⟨by decide, fun o ho => ?_⟩
  simp only [List.mem_singleton] at ho
  rw [ho]
  exact fit91
theorem fitC_nil : FitC nilL := ⟨fun i _ => Nat.zero_le _, fun i t _ ht => by cases ht⟩
theorem fitC_91 : FitC l91 := fitC_add (t := t91) fitC_nil (by decide) (fitT rfl)
theorem putL8 {w : World} {b : Nat} {u : Nat → S3} (h : LBox w b u) (c : Nat → S3) : LBox (putCells w b 0 [.slice (c 0).a (c 0).n (c 0).c, .slice (c 1).a (c 1).n (c 1).c, .slice (c 2).a (c 2).n (c 2).c, .slice (c 3).a (c 3).n (c 3).c, .slice (c 4).a (c 4).n (c 4).c, .slice (c 5).a (c 5).n (c 5).c, .slice (c 6).a (c 6).n (c 6).c, .slice (c 7).a (c 7).n (c 7).c]) b c := by
  have h8 := (((((((h.set (k := 0) (by decide) (c 0).a (c 0).n (c 0).c).set (k := 1) (by decide) (c 1).a (c 1).n (c 1).c).set (k := 2) (by decide) (c 2).a (c 2).n (c 2).c).set (k := 3) (by decide) (c 3).a (c 3).n (c 3).c).set (k := 4) (by decide) (c 4).a (c 4).n (c 4).c).set (k := 5) (by decide) (c 5).a (c 5).n (c 5).c).set (k := 6) (by decide) (c 6).a (c 6).n (c 6).c).set (k := 7) (by decide) (c 7).a (c 7).n (c 7).c
  exact ⟨h8.box⟩
theorem optov (w : World) : ∃ W, W = w.alloc (.cells #[.int .i64 1, .string ⟨#[97]⟩, .string ⟨#[]⟩, .int .i64 5] 41) ∧ Gr w W ∧ TOV W (.slice (some ⟨w.heap.size, 0, none⟩) 1 1) [op9] := by
  refine ⟨_, rfl, (Gr.refl w).alloc _, some ⟨w.heap.size, 0, none⟩, 1, rfl, Nat.le_refl _, ⟨by decide, fun e => by cases e⟩, fun j hj => ?_⟩
  have : j = 0 := by simp at hj; omega
  subst this
  refine ⟨w.heap.size, 0, rfl, ?_, ?_, ?_, ?_⟩ <;> (rw [World.cell?_alloc_at _ _ _ _ rfl]; rfl)

end Go.Proofs.Ytaldgjcbbjjceaa
/- The law CutCloses. -/
namespace Go.Proofs.Ytaldgjcbbjjceaa
open Go.RowKit Go.Joins

theorem close_ex (l : LG) (v0 : Nat → Nat) (hs0 : leqB v0 (sizeV l) = true) : ∀ (n : Nat) (v : Nat → Nat), sumV v ≤ n → ClI l v0 v → ∃ c, IsClose l v0 c := by
  intro n
  induction n with
  | zero =>
    intro v hn hi
    have hz : ∀ j, j < 8 → v j = 0 := fun j hj => by
      have h1 := sumTo_upd (v := v) (k := j) (x := 0) (n := 8) hj
      unfold sumV at hn
      omega
    exact ⟨v, close_done (fun j hj => .inl (hz j hj)) (lq_trans hi.le hs0), hi.le, hi.up⟩
  | succ n ih =>
    intro v hn hi
    by_cases hall : ∀ j, j < 8 → fine l v j
    · exact ⟨v, close_done hall (lq_trans hi.le hs0), hi.le, hi.up⟩
    · obtain ⟨k, hk⟩ := Classical.not_forall.1 hall
      obtain ⟨h8, hnf⟩ := Classical.not_imp.1 hk
      have h1 : v k ≠ 0 := fun e => hnf (.inl e)
      have h2 : leqB (needV (l k) (v k)) v = false := by
        rw [Bool.eq_false_iff]
        exact fun e => hnf (.inr e)
      have h3 := sumTo_upd (v := v) (k := k) (x := v k - 1) (n := 8) h8
      refine ih (upd v k (v k - 1)) (by unfold sumV at hn ⊢; omega) ⟨lq_of fun j hj => ?_, close_step (lq_trans hi.le hs0) h8 hi.up h2⟩
      have h4 := lq hi.le hj
      unfold upd
      by_cases q : j = k
      · subst q; rw [if_pos rfl]; omega
      · rw [if_neg q]; exact h4
theorem close_is (l : LG) (v : Nat → Nat) : ∃ c, IsClose l v c := by
  obtain ⟨c, hc⟩ := close_ex l (mt v (sizeV l)) (mt_le v l) _ _ (Nat.le_refl _) ⟨lq_refl _, fun _ _ h => h⟩
  refine ⟨c, hc.closed, lq_trans hc.within (lq_of fun _ _ => Nat.min_le_left _ _), fun u hu huv => hc.great u hu (lq_of fun i hi => ?_)⟩
  have h1 := lq huv hi
  have h2 : u i ≤ sizeV l i := lq hu.1 hi
  show _ ≤ min _ _
  omega
noncomputable def closeV (l : LG) (v : Nat → Nat) : Nat → Nat := Classical.choose (close_is l v)
theorem closeV_is (l : LG) (v : Nat → Nat) : IsClose l v (closeV l v) := Classical.choose_spec (close_is l v)
theorem vcells_congr {a b : Nat → Nat} (h : ∀ i, i < 8 → a i = b i) : vcells a = vcells b := by
  simp only [vcells, h 0 (by decide), h 1 (by decide), h 2 (by decide), h 3 (by decide), h 4 (by decide), h 5 (by decide), h 6 (by decide), h 7 (by decide)]
theorem close_eq {l : LG} {v c : Nat → Nat} (h : IsClose l v c) : vcells c = vcells (closeV l v) := vcells_congr fun i hi => by
  have k := closeV_is l v
  have h1 := lq (k.great c h.closed h.within) hi
  have h2 := lq (h.great _ k.closed k.within) hi
  omega
/-- What the region of the two calls of Close has left so far. -/
structure I9 (W : World) (F : Nat → Value) (p q : Nat → Nat) (vals : Vals) (w : World) : Prop where
  gr : Gr W w
  fx : ∀ k, k < 6 → ∀ y, vals k = some y → y = F k
  a : ∀ y, vals 6 = some y → ∃ b, y = .pointer (some ⟨b, 0, none⟩) ∧ W.heap.size ≤ b ∧ VBox w b (fun i => if (vals 8).isSome then p i else 0)
  b : ∀ y, vals 7 = some y → ∃ b, y = .pointer (some ⟨b, 0, none⟩) ∧ W.heap.size ≤ b ∧ VBox w b (fun i => if (vals 9).isSome then q i else 0)
  ne : ∀ b b', vals 6 = some (.pointer (some ⟨b, 0, none⟩)) → vals 7 = some (.pointer (some ⟨b', 0, none⟩)) → b ≠ b'
  sa : vals 6 = none → vals 8 = none
  sb : vals 7 = none → vals 9 = none
theorem I9.next {W : World} {F : Nat → Value} {p q : Nat → Nat} {vals : Vals} {w w' : World} (h : I9 W F p q vals w) (g : Gr w w') : I9 W F p q vals w' :=
  ⟨h.gr.trans g, h.fx, fun y hy => by obtain ⟨b, h1, h2, h3⟩ := h.a y hy; exact ⟨b, h1, h2, h3.gr g⟩, fun y hy => by obtain ⟨b, h1, h2, h3⟩ := h.b y hy; exact ⟨b, h1, h2, h3.gr g⟩, h.ne, h.sa, h.sb⟩
theorem I9.up {W : World} {F : Nat → Value} {p q : Nat → Nat} {vals : Vals} {w : World} (h : I9 W F p q vals w) {k : Nat} (hk : k < 6) : I9 W F p q (vals.up k (F k)) w := by
  have e : ∀ j, 6 ≤ j → vals.up k (F k) j = vals j := fun j hj => Vals.up_ne vals _ (by omega)
  refine ⟨h.gr, fun j hj y hy => ?_, ?_, ?_, ?_, ?_, ?_⟩
  · by_cases q : j = k
    · subst q
      rw [Vals.up_at] at hy
      injection hy with hy
      exact hy.symm
    · rw [Vals.up_ne vals _ q] at hy
      exact h.fx j hj y hy
  · rw [e 6 (by decide), e 8 (by decide)]; exact h.a
  · rw [e 7 (by decide), e 9 (by decide)]; exact h.b
  · rw [e 6 (by decide), e 7 (by decide)]; exact h.ne
  · rw [e 6 (by decide), e 8 (by decide)]; exact h.sa
  · rw [e 7 (by decide), e 9 (by decide)]; exact h.sb
theorem VBox.lt {w : World} {b : Nat} {a : Nat → Nat} (h : VBox w b a) : b < w.heap.size := (Array.getElem?_eq_some_iff.1 h.box).1
theorem I9.newA {W : World} {F : Nat → Value} {p q : Nat → Nat} {vals : Vals} {w : World} (h : I9 W F p q vals w) (hn : vals 6 = none) : I9 W F p q (vals.up 6 (.pointer (some ⟨w.heap.size, 0, none⟩))) (w.alloc (.cells V0 27)) := by
  have h1 := h.next ((Gr.refl w).alloc (.cells V0 27))
  have e : ∀ j, j ≠ 6 → vals.up 6 (.pointer (some ⟨w.heap.size, 0, none⟩)) j = vals j := fun j hj => Vals.up_ne vals _ hj
  refine ⟨h1.gr, fun j hj y hy => h.fx j hj y (by rw [← e j (by omega)]; exact hy), fun y hy => ?_, fun y hy => ?_, fun b b' hb hb' => ?_, fun hz => ?_, fun hz => ?_⟩
  · rw [Vals.up_at] at hy
    injection hy with hy
    refine ⟨w.heap.size, hy.symm, h.gr.size, ?_⟩
    rw [e 8 (by decide), h.sa hn]
    exact ⟨heap_alloc _ _ _⟩
  · rw [e 7 (by decide)] at hy
    obtain ⟨b, x1, x2, x3⟩ := h1.b y hy
    exact ⟨b, x1, x2, by rw [e 9 (by decide)]; exact x3⟩
  · rw [Vals.up_at] at hb
    rw [e 7 (by decide)] at hb'
    obtain ⟨b2, x1, _, x3⟩ := h.b _ hb'
    injection x1 with x1
    injection x1 with x1
    injection x1 with x1
    injection hb with hb
    injection hb with hb
    injection hb with hb
    injection hb with hb
    have := x3.lt
    omega
  · rw [Vals.up_at] at hz; cases hz
  · rw [e 7 (by decide)] at hz; rw [e 9 (by decide)]; exact h.sb hz
theorem I9.newB {W : World} {F : Nat → Value} {p q : Nat → Nat} {vals : Vals} {w : World} (h : I9 W F p q vals w) (hn : vals 7 = none) : I9 W F p q (vals.up 7 (.pointer (some ⟨w.heap.size, 0, none⟩))) (w.alloc (.cells V0 27)) := by
  have h1 := h.next ((Gr.refl w).alloc (.cells V0 27))
  have e : ∀ j, j ≠ 7 → vals.up 7 (.pointer (some ⟨w.heap.size, 0, none⟩)) j = vals j := fun j hj => Vals.up_ne vals _ hj
  refine ⟨h1.gr, fun j hj y hy => h.fx j hj y (by rw [← e j (by omega)]; exact hy), fun y hy => ?_, fun y hy => ?_, fun b b' hb hb' => ?_, fun hz => ?_, fun hz => ?_⟩
  · rw [e 6 (by decide)] at hy
    obtain ⟨b, x1, x2, x3⟩ := h1.a y hy
    exact ⟨b, x1, x2, by rw [e 8 (by decide)]; exact x3⟩
  · rw [Vals.up_at] at hy
    injection hy with hy
    refine ⟨w.heap.size, hy.symm, h.gr.size, ?_⟩
    rw [e 9 (by decide), h.sb hn]
    exact ⟨heap_alloc _ _ _⟩
  · rw [Vals.up_at] at hb'
    rw [e 6 (by decide)] at hb
    obtain ⟨b2, x1, _, x3⟩ := h.a _ hb
    injection x1 with x1
    injection x1 with x1
    injection x1 with x1
    injection hb' with hb'
    injection hb' with hb'
    injection hb' with hb'
    injection hb' with hb'
    have := x3.lt
    omega
  · rw [e 6 (by decide)] at hz; rw [e 8 (by decide)]; exact h.sa hz
  · rw [Vals.up_at] at hz; cases hz
theorem I9.putA {W : World} {F : Nat → Value} {p q : Nat → Nat} {vals : Vals} {w : World} {b : Nat} (h : I9 W F p q vals w) (hv : vals 6 = some (.pointer (some ⟨b, 0, none⟩))) : I9 W F p q (vals.up 8 undef) (putCells w b 0 (vcells p).toList) := by
  have e : ∀ j, j ≠ 8 → vals.up 8 undef j = vals j := fun j hj => Vals.up_ne vals _ hj
  obtain ⟨b1, x1, x2, x3⟩ := h.a _ hv
  injection x1 with x1
  injection x1 with x1
  injection x1 with x1
  subst x1
  obtain ⟨hk, hb⟩ := putV8 x3 p
  refine ⟨Gr.putCells x2 _ _ h.gr, fun j hj y hy => h.fx j hj y (by rw [← e j (by omega)]; exact hy), fun y hy => ?_, fun y hy => ?_, ?_, fun hz => ?_, fun hz => ?_⟩
  · rw [e 6 (by decide), hv] at hy
    injection hy with hy
    refine ⟨b, hy.symm, x2, ?_⟩
    rw [Vals.up_at]
    exact hb
  · rw [e 7 (by decide)] at hy
    obtain ⟨b2, y1, y2, y3⟩ := h.b y hy
    rw [e 9 (by decide)]
    subst y1
    exact ⟨b2, rfl, y2, ⟨by rw [hk _ (fun q => h.ne b b2 hv hy q.symm)]; exact y3.box⟩⟩
  · rw [e 6 (by decide), e 7 (by decide)]; exact h.ne
  · rw [e 6 (by decide), hv] at hz; cases hz
  · rw [e 7 (by decide)] at hz; rw [e 9 (by decide)]; exact h.sb hz
theorem I9.putB {W : World} {F : Nat → Value} {p q : Nat → Nat} {vals : Vals} {w : World} {b : Nat} (h : I9 W F p q vals w) (hv : vals 7 = some (.pointer (some ⟨b, 0, none⟩))) : I9 W F p q (vals.up 9 undef) (putCells w b 0 (vcells q).toList) := by
  have e : ∀ j, j ≠ 9 → vals.up 9 undef j = vals j := fun j hj => Vals.up_ne vals _ hj
  obtain ⟨b1, x1, x2, x3⟩ := h.b _ hv
  injection x1 with x1
  injection x1 with x1
  injection x1 with x1
  subst x1
  obtain ⟨hk, hb⟩ := putV8 x3 q
  refine ⟨Gr.putCells x2 _ _ h.gr, fun j hj y hy => h.fx j hj y (by rw [← e j (by omega)]; exact hy), fun y hy => ?_, fun y hy => ?_, ?_, fun hz => ?_, fun hz => ?_⟩
  · rw [e 6 (by decide)] at hy
    obtain ⟨b2, y1, y2, y3⟩ := h.a y hy
    rw [e 8 (by decide)]
    subst y1
    exact ⟨b2, rfl, y2, ⟨by rw [hk _ (h.ne b2 b hy hv)]; exact y3.box⟩⟩
  · rw [e 7 (by decide), hv] at hy
    injection hy with hy
    refine ⟨b, hy.symm, x2, ?_⟩
    rw [Vals.up_at]
    exact hb
  · rw [e 6 (by decide), e 7 (by decide)]; exact h.ne
  · rw [e 6 (by decide)] at hz; rw [e 8 (by decide)]; exact h.sa hz
  · rw [e 7 (by decide), hv] at hz; cases hz
theorem boxesCc (u : Nat → S3) (v x : Nat → Nat) (w : World) : ∃ W, W = ((w.alloc (.cells (lcells u) 24)).alloc (.cells (vcells v) 27)).alloc (.cells (vcells x) 27) ∧ Gr w W ∧
    LBox W w.heap.size u ∧ VBox W (w.heap.size + 1) v ∧ VBox W (w.heap.size + 1 + 1) x := by
  obtain ⟨W, hW, hg, hs, hL, hV⟩ := boxesLV u v w
  rw [← hW]
  have h1 := heap_alloc W (vcells x) 27
  rw [hs] at h1
  exact ⟨_, rfl, hg.alloc _, hL.gr ((Gr.refl _).alloc _), hV.gr ((Gr.refl _).alloc _), ⟨h1⟩⟩
theorem i9_start {w : World} {F : Nat → Value} {p q : Nat → Nat} : I9 w F p q (fun _ => none) w.drew :=
  ⟨(Gr.refl _).drew, fun _ _ _ h => (by cases h), fun _ h => (by cases h), fun _ h => (by cases h), fun _ _ h => (by cases h), fun _ => rfl, fun _ => rfl⟩
theorem slotE {A : Act} {t : Nat} {v : Value} (h : A.eval (.tmp t) = v) : A.tmps[t]?.getD undef = v := by
  rw [← Array.getD_eq_getD_getElem?]
  exact h
def F9 (u : Nat → S3) (v x p q : Nat → Nat) : Nat → Value
  | 0 => .agg (lcells u)
  | 1 => .agg (vcells v)
  | 2 => .agg (vcells p)
  | 3 => .agg (lcells u)
  | 4 => .agg (vcells x)
  | _ => .agg (vcells q)
end Go.Proofs.Ytaldgjcbbjjceaa
/- Walks: the predicate that unseen hands to DeleteFunc. -/
namespace Go.Proofs.Ytaldgjcbbjjceaa
open Go.RowKit Go.Joins
set_option linter.unusedSimpArgs false
set_option linter.unusedVariables false

/-- Whether a deed is seen: by what is counted of what it is about, or within its own transaction. -/
def unsD (F : ByteArray → Nat → Nat) (k : Int) (d : DD) : Bool := hasB (F (aboutT d.op)) d.t.origin d.t.seq || withinD k d
/-- A transaction's member and number lie at this place. -/
def HD (w : World) (b o : Nat) (t : TX) : Prop := w.cell? ⟨b, o, none⟩ = some (.int .i64 t.origin) ∧ w.cell? ⟨b, o + 1, none⟩ = some (.int .u64 (t.seq : Int))
theorem HD.gr {w w' : World} {b o : Nat} {t : TX} (h : HD w b o t) (g : Gr w w') : HD w' b o t := ⟨g.cell h.1, g.cell h.2⟩
theorem XCell.hcD {w : World} {b o : Nat} {t : TX} (h : XCell w b o t) : HD w b o t := by
  obtain ⟨v, -, x0, x1, -⟩ := h
  exact ⟨x0, x1⟩
def FU (bm : Nat) (dv o : Array Value) (s : ByteArray) (cv : Nat → Nat) : Nat → Option Value
  | 0 => some (.map (some bm))
  | 1 => some (.agg dv)
  | 2 => some (.agg o)
  | 3 => some (.string s)
  | 4 => some (.agg (vcells cv))
  | 5 => some (.agg (vcells cv))
  | _ => none
theorem ddbox (w : World) (d : DD) : ∃ W, W = w.alloc (.cells #[.pointer (some ⟨d.b, d.o, none⟩), .int .i64 (d.i : Int)] 96) ∧ Gr w W ∧ W.cell? ⟨w.heap.size, 0, none⟩ = some (.pointer (some ⟨d.b, d.o, none⟩)) ∧ W.cell? ⟨w.heap.size, 1, none⟩ = some (.int .i64 (d.i : Int)) := by
  refine ⟨_, rfl, (Gr.refl w).alloc _, ?_, ?_⟩
  · rw [World.cell?_alloc_at _ _ _ _ rfl]; rfl
  · rw [World.cell?_alloc_at _ _ _ _ rfl]; rfl
set_option maxRecDepth 100000 in
set_option maxHeartbeats 4000000 in
theorem unseen1_any (d : DD) (pa pb bm n : Nat) (F : ByteArray → Nat → Nat) (k : Int) (w : World) (h : DX w d) (hm : SeenM w bm n F) (ha : w.cell? ⟨pa, 0, none⟩ = some (.map (some bm))) (hb : w.cell? ⟨pb, 0, none⟩ = some (.int .i64 k)) (hs : (aboutT d.op).size ≤ maxLen) :
    Calls Try.prog 88 #[.agg #[.pointer (some ⟨d.b, d.o, none⟩), .int .i64 (d.i : Int)], .pointer (some ⟨pa, 0, none⟩), .pointer (some ⟨pb, 0, none⟩)] w fun e w' => e = .returned (.bool (unsD F k d)) ∧ Gr w w' := by
  obtain ⟨q, hq⟩ : ∃ q, q = unsD F k d := ⟨_, rfl⟩
  rw [← hq]
  obtain ⟨s, hse⟩ : ∃ s, s = aboutT d.op := ⟨_, rfl⟩
  rw [← hse] at hs
  obtain ⟨cv, hcv⟩ : ∃ c, c = F s := ⟨_, rfl⟩
  obtain ⟨q1, hq1⟩ : ∃ q, q = hasB cv d.t.origin d.t.seq := ⟨_, rfl⟩
  obtain ⟨q2, hq2⟩ : ∃ q, q = withinD k d := ⟨_, rfl⟩
  have HQ : Hid (q = (q1 || q2)) := Lib.hid (by rw [hq, hq1, hq2, hcv, hse]; rfl)
  obtain ⟨W, hW, hg, a0, a1⟩ := ddbox w d
  have HG := Lib.hid hg
  have HA := Lib.hid (And.intro a0 a1)
  have HOP := Lib.hid (fun w1 (g : Gr W w1) => dop_any d w1 ((h.gr hg).gr g))
  have HAB := Lib.hid (fun w1 => about_any d.op w1)
  rw [← hse] at HAB
  have HWI := Lib.hid (fun w1 (g : Gr W w1) => within_any d k w1 ((h.gr hg).gr g))
  rw [← hq2] at HWI
  have HHS := Lib.hid (fun w1 => has_any cv d.t.origin d.t.seq w1)
  rw [← hq1] at HHS
  have HLK := Lib.hid (fun w1 (g : Gr W w1) => SeenM.lookup ((hm.gr hg).gr g) s hs)
  rw [← hcv] at HLK
  have HPA := Lib.hid (hg.cell ha)
  have HPB := Lib.hid (hg.cell hb)
  obtain ⟨o, ho⟩ : ∃ o, o = d.op := ⟨_, rfl⟩
  rw [← ho] at HOP HAB
  have HX := Lib.hid ((h.gr hg).1.hcD)
  have hfd : ∀ w, (Instr.field 112 (.agg (vcells cv)) 0).run Try.prog w = .ok (.agg (vcells cv)) w := fun w => by show _ = _; kernel_rfl
  clear h hm ha hb hs hq hse hcv hq1 hq2 hg a0 a1 ho
  go_enter Try.func88, Try.ntmps88
  go_upto_region 1 with (fail)
  rw [← hW]
  clear hW
  refine wp_region_noPanic ?_
  refine iRegionA (RI btL W (QL (FU bm #[.pointer (some ⟨d.b, d.o, none⟩), .int .i64 (d.i : Int)] (opv o) s cv) (fun _ => none) (fun _ => none) W.heap.size) [(6, 7, 5)] (fun _ => 27) (fun _ => V0)) (by kernel_rfl) (by kernel_rfl) (ri_start QL.st (Gr.refl _)) ?_ ?_
  · intro i o ho vals wc A hI hn hdep hOld hNew
    have hi : i < 8 := (List.getElem?_eq_some_iff.1 ho).1
    obtain ⟨a0, a1⟩ : wc.cell? ⟨w.heap.size, 0, none⟩ = some (.pointer (some ⟨d.b, d.o, none⟩)) ∧ wc.cell? ⟨w.heap.size, 1, none⟩ = some (.int .i64 (d.i : Int)) := ⟨hI.gr.cell HA.out.1, hI.gr.cell HA.out.2⟩
    have pa0 := hI.gr.cell HPA.out
    have eo1 : A.tmps[1]?.getD undef = .pointer (some ⟨pa, 0, none⟩) := slotE (hOld 1 (by kernel_rfl))
    have eo3 : A.tmps[3]?.getD undef = .pointer (some ⟨w.heap.size, 0, none⟩) := slotE (hOld 3 (by kernel_rfl))
    obtain rfl | rfl | rfl | rfl | rfl | rfl | rfl | rfl : i = 0 ∨ i = 1 ∨ i = 2 ∨ i = 3 ∨ i = 4 ∨ i = 5 ∨ i = 6 ∨ i = 7 := by omega
    · obtain rfl := Option.some.inj (show some _ = some o from ho)
      refine aVal rfl rfl (v := .map (some bm)) (w' := wc) ?_ ⟨_, rfl, hI.val hn (by decide) (qlF rfl rfl rfl)⟩
      go_simp
    · obtain rfl := Option.some.inj (show some _ = some o from ho)
      refine aVal rfl rfl (v := .agg #[.pointer (some ⟨d.b, d.o, none⟩), .int .i64 (d.i : Int)]) (w' := wc) ?_ ⟨_, rfl, hI.val hn (by decide) (qlF rfl rfl rfl)⟩
      go_simp
    · obtain rfl := Option.some.inj (show some _ = some o from ho)
      obtain ⟨y1, hy1⟩ := hdep ⟨1, .data⟩ (by simp) rfl
      have s1 := slotE (hNew 1 7 _ y1 rfl rfl (by kernel_rfl) hy1)
      rw [(hI.ok 1 y1 hy1).f _ rfl] at s1
      refine aCall rfl rfl (w1 := wc) ?_ ((HOP.out wc hI.gr).mono fun e w' ⟨he, hg⟩ => ⟨_, he, _, rfl, (hI.next hg).val hn (by decide) (qlF rfl rfl rfl)⟩)
      go_simp
    · obtain rfl := Option.some.inj (show some _ = some o from ho)
      obtain ⟨y2, hy2⟩ := hdep ⟨2, .data⟩ (by simp) rfl
      have s2 := slotE (hNew 2 8 _ y2 rfl rfl (by kernel_rfl) hy2)
      rw [(hI.ok 2 y2 hy2).f _ rfl] at s2
      refine aCall rfl rfl (w1 := wc) ?_ ((HAB.out wc).mono fun e w' ⟨he, hg⟩ => ⟨_, he, _, rfl, (hI.next hg).val hn (by decide) (qlF rfl rfl rfl)⟩)
      go_simp
    · obtain rfl := Option.some.inj (show some _ = some o from ho)
      obtain ⟨y0, hy0⟩ := hdep ⟨0, .data⟩ (by simp) rfl
      have s0 := slotE (hNew 0 6 _ y0 rfl rfl (by kernel_rfl) hy0)
      rw [(hI.ok 0 y0 hy0).f _ rfl] at s0
      obtain ⟨y3, hy3⟩ := hdep ⟨3, .data⟩ (by simp) rfl
      have s3 := slotE (hNew 3 9 _ y3 rfl rfl (by kernel_rfl) hy3)
      rw [(hI.ok 3 y3 hy3).f _ rfl] at s3
      have hlk := HLK.out wc hI.gr
      refine aVal rfl rfl (v := .agg (vcells cv)) (w' := wc) ?_ ⟨_, rfl, hI.val hn (by decide) (qlF rfl rfl rfl)⟩
      go_simp
    · obtain rfl := Option.some.inj (show some _ = some o from ho)
      obtain ⟨y4, hy4⟩ := hdep ⟨4, .data⟩ (by simp) rfl
      have s4 := slotE (hNew 4 10 _ y4 rfl rfl (by kernel_rfl) hy4)
      rw [(hI.ok 4 y4 hy4).f _ rfl] at s4
      refine aVal rfl rfl (v := .agg (vcells cv)) (w' := wc) ?_ ⟨_, rfl, hI.val hn (by decide) (qlF rfl rfl rfl)⟩
      go_simp
    · obtain rfl := Option.some.inj (show some _ = some o from ho)
      refine aVal rfl rfl (v := .pointer (some ⟨wc.heap.size, 0, none⟩)) (w' := wc.alloc (.cells (V0) 27)) ?_ ⟨_, rfl, hI.new hn (by decide) rfl rfl (fun _ _ => qlN rfl rfl rfl)⟩
      go_simp
    · obtain rfl := Option.some.inj (show some _ = some o from ho)
      obtain ⟨y6, hy6⟩ := hdep ⟨6, .data⟩ (by simp) rfl
      obtain ⟨P, rfl, hP1, hP2⟩ := hI.at_new (a := 6) (k := 7) (s := 5) (by decide) hn hy6
      have s6 := slotE (hNew 6 5 _ _ rfl rfl (by kernel_rfl) hy6)
      obtain ⟨y5, hy5⟩ := hdep ⟨5, .data⟩ (by simp) rfl
      have s5 := slotE (hNew 5 11 _ y5 rfl rfl (by kernel_rfl) hy5)
      have q5 := (hI.ok 5 y5 hy5).f _ rfl
      subst q5
      have hz : VBox wc P (fun _ => 0) := ⟨hP2⟩
      obtain ⟨c0, c1, c2, c3, c4, c5, c6, c7⟩ := hz.zero
      obtain ⟨f0, f1, f2, f3, f4, f5, f6, f7⟩ := hz.fz
      refine aSkip rfl rfl (w' := putCells wc P 0 (vcells cv).toList) ?_ ⟨_, rfl, hI.putA (a := 6) (k := 7) (s := 5) (c := vcells cv) (by decide) hn (by decide) (by decide) (by decide) hy6 hy5 rfl (fun _ => qlN rfl rfl rfl)⟩
      clear hz hI
      go_simp
      rfl
  · intro vals wc hall hI
    refine NoPanic.normal ?_
    obtain ⟨y0, h0⟩ := hall 0 (by decide)
    obtain ⟨y1, h1⟩ := hall 1 (by decide)
    obtain ⟨y2, h2⟩ := hall 2 (by decide)
    obtain ⟨y3, h3⟩ := hall 3 (by decide)
    obtain ⟨y4, h4⟩ := hall 4 (by decide)
    obtain ⟨y5, h5⟩ := hall 5 (by decide)
    obtain ⟨y6, h6⟩ := hall 6 (by decide)
    obtain ⟨y7, h7⟩ := hall 7 (by decide)
    obtain ⟨P5, rfl, hpl, hbP⟩ := hI.at_full (a := 6) (k := 7) (s := 5) (by decide) h7 h5 h6
    obtain rfl := (hI.ok 5 y5 h5).f _ rfl
    have HB5 : Hid (VBox wc P5 cv) := Lib.hid ⟨hbP⟩
    have HG1 := Lib.hid hI.gr
    clear hbP hpl
    simp only [putAll, putV, h0, h1, h2, h3, h4, h5, h6, h7]
    clear hI hall h0 h1 h2 h3 h4 h5 h6 h7
    simp only [Act.put, List.setIfInBounds_toArray, List.set_cons_zero, List.set_cons_succ]
    have HV1 := Lib.hid HB5.out.vc
    have HA1 : Hid (wc.cell? ⟨w.heap.size, 0, none⟩ = some (.pointer (some ⟨d.b, d.o, none⟩)) ∧ wc.cell? ⟨w.heap.size, 1, none⟩ = some (.int .i64 (d.i : Int))) := Lib.hid ⟨HG1.out.cell HA.out.1, HG1.out.cell HA.out.2⟩
    have HX1 := Lib.hid (HX.out.gr HG1.out)
    have HP1 := Lib.hid (HG1.out.cell HPB.out)
    clear HA HX HPA HPB HLK HOP HAB HB5
    go_upto_region 2 with (fail)
    rcases q1 with _ | _
    ·
      refine qRegion (fun w' => VC w' P5 cv ∧ w'.cell? ⟨w.heap.size, 0, none⟩ = some (.pointer (some ⟨d.b, d.o, none⟩)) ∧ w'.cell? ⟨w.heap.size, 1, none⟩ = some (.int .i64 (d.i : Int)) ∧ HD w' d.b d.o d.t ∧ w'.cell? ⟨pb, 0, none⟩ = some (.int .i64 k) ∧ Gr W w') (by kernel_rfl) (by kernel_rfl) ⟨HV1.out.gr (Gr.refl _).drew, (Gr.refl _).drew.cell HA1.out.1, (Gr.refl _).drew.cell HA1.out.2, HX1.out.gr (Gr.refl _).drew, (Gr.refl _).drew.cell HP1.out, HG1.out.drew⟩ ?_
      iterate 11
        refine qTake (by kernel_rfl) ?_
        apply Exists.intro
        refine ⟨fun wq hq => ?_, ?_⟩
        · go_light
          obtain ⟨⟨v0, v1, v2, v3, v4, v5, v6, v7⟩, a0, a1, ⟨x0, x1⟩, b0, -⟩ := hq
          go_simp
          try with_reducible rfl
          done
        try simp only [Act.put, List.setIfInBounds_toArray, List.set_cons_zero, List.set_cons_succ]
      refine qCall (by kernel_rfl) ?_
      apply Exists.intro
      refine ⟨?_, ?_⟩
      · apply Exists.intro
        apply Exists.intro
        refine ⟨fun wq => ?_, fun wq hq => ?_⟩
        · go_light
          go_simp
          exact ⟨rfl, rfl⟩
        · exact (HHS.out wq).mono fun e w'' ⟨he, hg⟩ => ⟨he, hq.1.gr hg, hg.cell hq.2.1, hg.cell hq.2.2.1, hq.2.2.2.1.gr hg, hg.cell hq.2.2.2.2.1, hq.2.2.2.2.2.trans hg⟩
      try simp only [Act.put, List.setIfInBounds_toArray, List.set_cons_zero, List.set_cons_succ]
      iterate 3
        refine qTake (by kernel_rfl) ?_
        apply Exists.intro
        refine ⟨fun wq hq => ?_, ?_⟩
        · go_light
          obtain ⟨⟨v0, v1, v2, v3, v4, v5, v6, v7⟩, a0, a1, ⟨x0, x1⟩, b0, -⟩ := hq
          go_simp
          try with_reducible rfl
          done
        try simp only [Act.put, List.setIfInBounds_toArray, List.set_cons_zero, List.set_cons_succ]
      refine qCall (by kernel_rfl) ?_
      apply Exists.intro
      refine ⟨?_, ?_⟩
      · apply Exists.intro
        apply Exists.intro
        refine ⟨fun wq => ?_, fun wq hq => ?_⟩
        · go_light
          go_simp
          exact ⟨rfl, rfl⟩
        · exact (HWI.out wq hq.2.2.2.2.2).mono fun e w'' ⟨he, hg⟩ => ⟨he, hq.1.gr hg, hg.cell hq.2.1, hg.cell hq.2.2.1, hq.2.2.2.1.gr hg, hg.cell hq.2.2.2.2.1, hq.2.2.2.2.2.trans hg⟩
      try simp only [Act.put, List.setIfInBounds_toArray, List.set_cons_zero, List.set_cons_succ]
      iterate 2
        refine qTake (by kernel_rfl) ?_
        apply Exists.intro
        refine ⟨fun wq hq => ?_, ?_⟩
        · go_light
          obtain ⟨⟨v0, v1, v2, v3, v4, v5, v6, v7⟩, a0, a1, ⟨x0, x1⟩, b0, -⟩ := hq
          go_simp
          try with_reducible rfl
          done
        try simp only [Act.put, List.setIfInBounds_toArray, List.set_cons_zero, List.set_cons_succ]
      refine qNil ?_
      rintro w3 ⟨-, -, -, -, -, hg3⟩
      have HG3 := Lib.hid (HG.out.trans hg3)
      clear hg3
      go_wp2_with fail
      go_ret
      exact ⟨by rw [HQ.out]; rfl, HG3.out⟩
    ·
      refine qRegion (fun w' => VC w' P5 cv ∧ w'.cell? ⟨w.heap.size, 0, none⟩ = some (.pointer (some ⟨d.b, d.o, none⟩)) ∧ w'.cell? ⟨w.heap.size, 1, none⟩ = some (.int .i64 (d.i : Int)) ∧ HD w' d.b d.o d.t ∧ w'.cell? ⟨pb, 0, none⟩ = some (.int .i64 k) ∧ Gr W w') (by kernel_rfl) (by kernel_rfl) ⟨HV1.out.gr (Gr.refl _).drew, (Gr.refl _).drew.cell HA1.out.1, (Gr.refl _).drew.cell HA1.out.2, HX1.out.gr (Gr.refl _).drew, (Gr.refl _).drew.cell HP1.out, HG1.out.drew⟩ ?_
      iterate 11
        refine qTake (by kernel_rfl) ?_
        apply Exists.intro
        refine ⟨fun wq hq => ?_, ?_⟩
        · go_light
          obtain ⟨⟨v0, v1, v2, v3, v4, v5, v6, v7⟩, a0, a1, ⟨x0, x1⟩, b0, -⟩ := hq
          go_simp
          try with_reducible rfl
          done
        try simp only [Act.put, List.setIfInBounds_toArray, List.set_cons_zero, List.set_cons_succ]
      refine qCall (by kernel_rfl) ?_
      apply Exists.intro
      refine ⟨?_, ?_⟩
      · apply Exists.intro
        apply Exists.intro
        refine ⟨fun wq => ?_, fun wq hq => ?_⟩
        · go_light
          go_simp
          exact ⟨rfl, rfl⟩
        · exact (HHS.out wq).mono fun e w'' ⟨he, hg⟩ => ⟨he, hq.1.gr hg, hg.cell hq.2.1, hg.cell hq.2.2.1, hq.2.2.2.1.gr hg, hg.cell hq.2.2.2.2.1, hq.2.2.2.2.2.trans hg⟩
      try simp only [Act.put, List.setIfInBounds_toArray, List.set_cons_zero, List.set_cons_succ]
      iterate 1
        refine qTake (by kernel_rfl) ?_
        apply Exists.intro
        refine ⟨fun wq hq => ?_, ?_⟩
        · go_light
          obtain ⟨⟨v0, v1, v2, v3, v4, v5, v6, v7⟩, a0, a1, ⟨x0, x1⟩, b0, -⟩ := hq
          go_simp
          try with_reducible rfl
          done
        try simp only [Act.put, List.setIfInBounds_toArray, List.set_cons_zero, List.set_cons_succ]
      iterate 3
        refine qSkip (by kernel_rfl) ?_
        try simp only [Act.put, List.setIfInBounds_toArray, List.set_cons_zero, List.set_cons_succ]
      iterate 2
        refine qTake (by kernel_rfl) ?_
        apply Exists.intro
        refine ⟨fun wq hq => ?_, ?_⟩
        · go_light
          obtain ⟨⟨v0, v1, v2, v3, v4, v5, v6, v7⟩, a0, a1, ⟨x0, x1⟩, b0, -⟩ := hq
          go_simp
          try with_reducible rfl
          done
        try simp only [Act.put, List.setIfInBounds_toArray, List.set_cons_zero, List.set_cons_succ]
      refine qNil ?_
      rintro w3 ⟨-, -, -, -, -, hg3⟩
      have HG3 := Lib.hid (HG.out.trans hg3)
      clear hg3
      go_wp2_with fail
      go_ret
      exact ⟨by rw [HQ.out]; rfl, HG3.out⟩
end Go.Proofs.Ytaldgjcbbjjceaa
