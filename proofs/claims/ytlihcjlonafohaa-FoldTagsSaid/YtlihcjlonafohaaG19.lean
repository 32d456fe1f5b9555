/- Texts CutI, CutK, CutN, CutO, ValK, ValL, joined. -/
import Derived.Test.YtlihcjlonafohaaG14
import Derived.Test.YtlihcjlonafohaaG17
import Derived.Deep.LoopGhost
import Derived.Test.YtlihcjlonafohaaG18
import Derived.Test.YtlihcjlonafohaaG11
import Derived.Test.YtlihcjlonafohaaG16
import Derived.Test.YtlihcjlonafohaaG07
/- Walks: the program's needsOf. -/
namespace Go.Proofs.Ytlihcjlonafohaa
open Go.RowKit Go.Joins

abbrev S0 : Nat → S3 := fun _ => ⟨none, 0, 0⟩
theorem VBox.kp {w w' : World} {g b : Nat} {a : Nat → Nat} (h : VBox w b a) (k : Kp (some g) w w') (hr : b ≠ g) : VBox w' b a := ⟨kp_obj k h.box (fun e => hr (Option.some.inj e).symm)⟩
/-- A row of vectors that the call owns. -/
def RN (w : World) (B : Nat) (s : S3) (f : Nat → Nat → Nat) (n : Nat) : Prop := w.ownsRow B 27 8 (.slice s.a s.n s.c) n (vrows f n)
def needF (l : LG) (i : Nat) : Nat → Nat → Nat := fun k => needV (l i) (k + 1)
theorem putCells_size : ∀ (cs : List Value) (w : World) (g o : Nat), (putCells w g o cs).heap.size = w.heap.size
  | [], _, _, _ => rfl
  | u :: r, w, g, o => by
    show (putCells (w.setCell ⟨g, o, none⟩ u) g (o + 1) r).heap.size = _
    rw [putCells_size r]
    simp [World.setCell]
theorem putCells_keep : ∀ (cs : List Value) (w : World) (g o : Nat) (x : Nat), x ≠ g → (putCells w g o cs).heap[x]? = w.heap[x]?
  | [], _, _, _, _, _ => rfl
  | u :: r, w, g, o, x, h => by
    show (putCells (w.setCell ⟨g, o, none⟩ u) g (o + 1) r).heap[x]? = _
    rw [putCells_keep r _ g (o + 1) x h, Go.Deep.blk_setCell_other _ _ _ _ h]
/-- A vector's box is stored anew. -/
theorem putV8 {w : World} {b : Nat} {a : Nat → Nat} (h : VBox w b a) (c : Nat → Nat) : (∀ x, x ≠ b → (putCells w b 0 (vcells c).toList).heap[x]? = w.heap[x]?) ∧ VBox (putCells w b 0 (vcells c).toList) b c := by
  refine ⟨fun x hx => putCells_keep _ _ _ _ _ hx, ⟨?_⟩⟩
  have h8 := (((((((h.set (k := 0) (by decide) (c 0)).set (k := 1) (by decide) (c 1)).set (k := 2) (by decide) (c 2)).set (k := 3) (by decide) (c 3)).set (k := 4) (by decide) (c 4)).set (k := 5) (by decide) (c 5)).set (k := 6) (by decide) (c 6)).set (k := 7) (by decide) (c 7)
  exact h8.box
theorem vrow_put {w : World} {B g n c : Nat} {f : Nat → Nat → Nat} (h : w.ownsRow B 27 8 (.slice (some ⟨g, 0, none⟩) n c) n (vrows f n)) {k : Nat} (hk : k < n) (a : Nat → Nat) :
    (putCells w g (k * 8) (vcells a).toList).ownsRow B 27 8 (.slice (some ⟨g, 0, none⟩) n c) n (vrows (fun i => if i = k then a else f i) n) ∧ Kp (some g) w (putCells w g (k * 8) (vcells a).toList) := by
  obtain ⟨h1, h2⟩ := own_putCells (vcells a).toList (k * 8) w _ h
  rw [vrows_set f hk a] at h1
  exact ⟨h1, h2⟩
theorem vrows_congr {f g : Nat → Nat → Nat} {n : Nat} (h : ∀ k, k < n → f k = g k) : vrows f n = vrows g n := by
  refine List.ext_getElem? fun j => ?_
  rcases Nat.lt_or_ge j (n * 8) with hj | hj
  · obtain ⟨q, r, rfl, hr⟩ : ∃ q r, j = q * 8 + r ∧ r < 8 := ⟨j / 8, j % 8, by omega, Nat.mod_lt _ (by decide)⟩
    rw [vrows_at f (by omega) hr, vrows_at g (by omega) hr, h q (by omega)]
  · rw [List.getElem?_eq_none (by rw [vrows_len]; exact hj), List.getElem?_eq_none (by rw [vrows_len]; exact hj)]
theorem vrow_cells {w : World} {B g n c : Nat} {f : Nat → Nat → Nat} (h : w.ownsRow B 27 8 (.slice (some ⟨g, 0, none⟩) n c) n (vrows f n)) {k r : Nat} (hk : k < n) (hr : r < 8) : w.cell? ⟨g, k * 8 + r, none⟩ = some (.int .u64 (f k r : Int)) := own_cell h (vrows_at f hk hr)

end Go.Proofs.Ytlihcjlonafohaa
/- Walks: the program's Close. -/
namespace Go.Proofs.Ytlihcjlonafohaa
open Go.RowKit Go.Joins

def sumTo (v : Nat → Nat) : Nat → Nat
  | 0 => 0
  | k + 1 => sumTo v k + v k
def sumV (v : Nat → Nat) : Nat := sumTo v 8
theorem sumTo_past {v : Nat → Nat} {k x : Nat} : ∀ {n : Nat}, n ≤ k → sumTo (upd v k x) n = sumTo v n
  | 0, _ => rfl
  | n + 1, h => by
    show sumTo (upd v k x) n + upd v k x n = sumTo v n + v n
    rw [sumTo_past (n := n) (by omega)]
    unfold upd
    rw [if_neg (by omega)]
theorem sumTo_upd {v : Nat → Nat} {k x : Nat} : ∀ {n : Nat}, k < n → sumTo (upd v k x) n + v k = sumTo v n + x
  | 0, h => by omega
  | n + 1, h => by
    show sumTo (upd v k x) n + upd v k x n + v k = sumTo v n + v n + x
    by_cases e : k = n
    · subst e
      rw [sumTo_past (Nat.le_refl _)]
      unfold upd
      rw [if_pos rfl]
      omega
    · have ih := sumTo_upd (v := v) (k := k) (x := x) (n := n) (by omega)
      have : upd v k x n = v n := if_neg (fun q => e q.symm)
      rw [this]
      omega
/-- The cut's last transaction of member j, and all ahead of it, depend on nothing beyond the cut. -/
def fine (l : LG) (v : Nat → Nat) (j : Nat) : Prop := v j = 0 ∨ leqB (needV (l j) (v j)) v = true
theorem close_done {l : LG} {v : Nat → Nat} (h : ∀ j, j < 8 → fine l v j) (hs : leqB v (sizeV l) = true) : closedP l v := by
  refine ⟨hs, fun i k t hi hk ht => ?_⟩
  rcases h i hi with h0 | h0
  · omega
  · exact (needV_le (lq hs hi)).1 h0 k t hk ht
theorem close_step {l : LG} {v0 v : Nat → Nat} {k : Nat} (hs : leqB v (sizeV l) = true) (hk : k < 8) (h : ∀ u, closedP l u → leqB u v0 = true → leqB u v = true) (hn : leqB (needV (l k) (v k)) v = false) : ∀ u, closedP l u → leqB u v0 = true → leqB u (upd v k (v k - 1)) = true := by
  intro u hu h0
  have h1 := h u hu h0
  refine lq_of fun j hj => ?_
  unfold upd
  by_cases e : j = k
  · subst e
    rw [if_pos rfl]
    have h2 := lq h1 hj
    rcases Nat.lt_or_ge (u j) (v j) with q | q
    · omega
    · exfalso
      have e2 : u j = v j := by omega
      have : leqB (needV (l j) (v j)) v = true := (needV_le (lq hs hj)).2 fun d t hd ht => lq_trans (hu.2 j d t hj (by omega) ht) h1
      rw [hn] at this
      cases this
  · rw [if_neg e]
    exact lq h1 hj
theorem boxesCl (u : Nat → S3) (v : Nat → Nat) (w : World) : ∃ W, W = ((w.alloc (.cells (lcells u) 24)).alloc (.cells (vcells v) 27)).alloc (.cells V0 27) ∧ Gr w W ∧ W.heap.size = w.heap.size + 3 ∧
    LBox W w.heap.size u ∧ VBox W (w.heap.size + 1) v ∧ VBox W (w.heap.size + 1 + 1) (fun _ => 0) := by
  obtain ⟨W, hW, hg, hs, hL, hV⟩ := boxesLV u v w
  rw [← hW]
  have h1 := heap_alloc W V0 27
  rw [hs] at h1
  exact ⟨_, rfl, hg.alloc _, by simp [hs], hL.gr ((Gr.refl _).alloc _), hV.gr ((Gr.refl _).alloc _), ⟨h1⟩⟩
/-- The cut is within the first one, and no closed cut within that is above it. -/
structure ClI (l : LG) (v0 v : Nat → Nat) : Prop where
  le : leqB v v0 = true
  up : ∀ u, closedP l u → leqB u v0 = true → leqB u v = true
/-- Eight cells of a vector at this place. -/
def VCo (w : World) (b o : Nat) (a : Nat → Nat) : Prop := w.cell? ⟨b, o, none⟩ = some (.int .u64 (a 0 : Int)) ∧ w.cell? ⟨b, o + 1, none⟩ = some (.int .u64 (a 1 : Int)) ∧ w.cell? ⟨b, o + 2, none⟩ = some (.int .u64 (a 2 : Int)) ∧ w.cell? ⟨b, o + 3, none⟩ = some (.int .u64 (a 3 : Int)) ∧ w.cell? ⟨b, o + 4, none⟩ = some (.int .u64 (a 4 : Int)) ∧ w.cell? ⟨b, o + 5, none⟩ = some (.int .u64 (a 5 : Int)) ∧ w.cell? ⟨b, o + 6, none⟩ = some (.int .u64 (a 6 : Int)) ∧ w.cell? ⟨b, o + 7, none⟩ = some (.int .u64 (a 7 : Int))
theorem VCo.gr {w w' : World} {b o : Nat} {a : Nat → Nat} (h : VCo w b o a) (g : Gr w w') : VCo w' b o a := by
  obtain ⟨h0, h1, h2, h3, h4, h5, h6, h7⟩ := h
  exact ⟨g.cell h0, g.cell h1, g.cell h2, g.cell h3, g.cell h4, g.cell h5, g.cell h6, g.cell h7⟩
theorem vco_row {w : World} {B g n c : Nat} {f : Nat → Nat → Nat} (h : w.ownsRow B 27 8 (.slice (some ⟨g, 0, none⟩) n c) n (vrows f n)) {k : Nat} (hk : k < n) : VCo w g (k * 8) (f k) :=
  ⟨vrow_cells h hk (r := 0) (by decide), vrow_cells h hk (r := 1) (by decide), vrow_cells h hk (r := 2) (by decide), vrow_cells h hk (r := 3) (by decide), vrow_cells h hk (r := 4) (by decide), vrow_cells h hk (r := 5) (by decide), vrow_cells h hk (r := 6) (by decide), vrow_cells h hk (r := 7) (by decide)⟩
theorem mt_le (v : Nat → Nat) (l : LG) : leqB (mt v (sizeV l)) (sizeV l) = true := lq_of fun _ _ => Nat.min_le_right _ _

end Go.Proofs.Ytlihcjlonafohaa
/- Walks: the laws' own awake. -/
namespace Go.Proofs.Ytlihcjlonafohaa
open Go.RowKit Go.Joins

def op9 : TO := ⟨1, ⟨#[97]⟩, ⟨#[]⟩, 5⟩
def t91 : TX := ⟨0, 1, 1, fun _ => 0, [op9]⟩
def e91 : Nat → Nat | 0 => 1 | _ => 0
def t92 : TX := ⟨1, 1, 2, e91, [op9]⟩
def l91 : LG := addL nilL 0 t91
def l92 : LG := addL l91 1 t92
def c91 : Nat → Nat | 1 => 1 | _ => 0
def c92 : Nat → Nat | 0 => 1 | 1 => 1 | _ => 0
theorem add91 : addR nilL t91 = (0, l91) := by kernel_rfl
theorem add92 : addR l91 t92 = (0, l92) := by kernel_rfl
theorem clo91 : closedB l92 c91 = false := by kernel_rfl
theorem clo92 : closedB l92 c92 = true := by kernel_rfl
theorem fit91 : op9.key.size ≤ 281474976710656 ∧ op9.elem.size ≤ 281474976710656 := by decide
theorem fitT {t : TX} (h : t.ops = [op9]) : t.ops.length * 48 ≤ 140737488355328 ∧ ∀ o ∈ t.ops, o.key.size ≤ 281474976710656 ∧ o.elem.size ≤ 281474976710656 := by
  rw [h]
  refine ⟨by decide, fun o ho => ?_⟩
  simp only [List.mem_singleton] at ho
  rw [ho]
  exact fit91
theorem fitC_nil : FitC nilL := ⟨fun i _ => Nat.zero_le _, fun i t _ ht => by cases ht⟩
theorem fitC_91 : FitC l91 := fitC_add (t := t91) fitC_nil (by decide) (fitT rfl)
theorem putL8 {w : World} {b : Nat} {u : Nat → S3} (h : LBox w b u) (c : Nat → S3) : LBox (putCells w b 0 [.slice (c 0).a (c 0).n (c 0).c, .slice (c 1).a (c 1).n (c 1).c, .slice (c 2).a (c 2).n (c 2).c, .slice (c 3).a (c 3).n (c 3).c, .slice (c 4).a (c 4).n (c 4).c, .slice (c 5).a (c 5).n (c 5).c, .slice (c 6).a (c 6).n (c 6).c, .slice (c 7).a (c 7).n (c 7).c]) b c := by
  have h8 := (((((((h.set (k := 0) (by decide) (c 0).a (c 0).n (c 0).c).set (k := 1) (by decide) (c 1).a (c 1).n (c 1).c).set (k := 2) (by decide) (c 2).a (c 2).n (c 2).c).set (k := 3) (by decide) (c 3).a (c 3).n (c 3).c).set (k := 4) (by decide) (c 4).a (c 4).n (c 4).c).set (k := 5) (by decide) (c 5).a (c 5).n (c 5).c).set (k := 6) (by decide) (c 6).a (c 6).n (c 6).c).set (k := 7) (by decide) (c 7).a (c 7).n (c 7).c
  exact ⟨h8.box⟩
theorem optov (w : World) : ∃ W, W = w.alloc (.cells #[.int .i64 1, .string ⟨#[97]⟩, .string ⟨#[]⟩, .int .i64 5] 46) ∧ Gr w W ∧ TOV W (.slice (some ⟨w.heap.size, 0, none⟩) 1 1) [op9] := by
  refine ⟨_, rfl, (Gr.refl w).alloc _, some ⟨w.heap.size, 0, none⟩, 1, rfl, Nat.le_refl _, ⟨by decide, fun e => by cases e⟩, fun j hj => ?_⟩
  have : j = 0 := by simp at hj; omega
  subst this
  refine ⟨w.heap.size, 0, rfl, ?_, ?_, ?_, ?_⟩ <;> (rw [World.cell?_alloc_at _ _ _ _ rfl]; rfl)

end Go.Proofs.Ytlihcjlonafohaa
/- The law CutCloses. -/
namespace Go.Proofs.Ytlihcjlonafohaa
open Go.RowKit Go.Joins

theorem close_ex (l : LG) (v0 : Nat → Nat) (hs0 : leqB v0 (sizeV l) = true) : ∀ (n : Nat) (v : Nat → Nat), sumV v ≤ n → ClI l v0 v → ∃ c, IsClose l v0 c := by
  intro n
  induction n with
  | zero =>
    intro v hn hi
    have hz : ∀ j, j < 8 → v j = 0 := fun j hj => by
      have h1 := sumTo_upd (v := v) (k := j) (x := 0) (n := 8) hj
      unfold sumV at hn
      omega
    exact ⟨v, close_done (fun j hj => .inl (hz j hj)) (lq_trans hi.le hs0), hi.le, hi.up⟩
  | succ n ih =>
    intro v hn hi
    by_cases hall : ∀ j, j < 8 → fine l v j
    · exact ⟨v, close_done hall (lq_trans hi.le hs0), hi.le, hi.up⟩
    · obtain ⟨k, hk⟩ := Classical.not_forall.1 hall
      obtain ⟨h8, hnf⟩ := Classical.not_imp.1 hk
      have h1 : v k ≠ 0 := fun e => hnf (.inl e)
      have h2 : leqB (needV (l k) (v k)) v = false := by
        rw [Bool.eq_false_iff]
        exact fun e => hnf (.inr e)
      have h3 := sumTo_upd (v := v) (k := k) (x := v k - 1) (n := 8) h8
      refine ih (upd v k (v k - 1)) (by unfold sumV at hn ⊢; omega) ⟨lq_of fun j hj => ?_, close_step (lq_trans hi.le hs0) h8 hi.up h2⟩
      have h4 := lq hi.le hj
      unfold upd
      by_cases q : j = k
      · subst q; rw [if_pos rfl]; omega
      · rw [if_neg q]; exact h4
theorem close_is (l : LG) (v : Nat → Nat) : ∃ c, IsClose l v c := by
  obtain ⟨c, hc⟩ := close_ex l (mt v (sizeV l)) (mt_le v l) _ _ (Nat.le_refl _) ⟨lq_refl _, fun _ _ h => h⟩
  refine ⟨c, hc.closed, lq_trans hc.within (lq_of fun _ _ => Nat.min_le_left _ _), fun u hu huv => hc.great u hu (lq_of fun i hi => ?_)⟩
  have h1 := lq huv hi
  have h2 : u i ≤ sizeV l i := lq hu.1 hi
  show _ ≤ min _ _
  omega
noncomputable def closeV (l : LG) (v : Nat → Nat) : Nat → Nat := Classical.choose (close_is l v)
theorem closeV_is (l : LG) (v : Nat → Nat) : IsClose l v (closeV l v) := Classical.choose_spec (close_is l v)
theorem vcells_congr {a b : Nat → Nat} (h : ∀ i, i < 8 → a i = b i) : vcells a = vcells b := by
  simp only [vcells, h 0 (by decide), h 1 (by decide), h 2 (by decide), h 3 (by decide), h 4 (by decide), h 5 (by decide), h 6 (by decide), h 7 (by decide)]
theorem close_eq {l : LG} {v c : Nat → Nat} (h : IsClose l v c) : vcells c = vcells (closeV l v) := vcells_congr fun i hi => by
  have k := closeV_is l v
  have h1 := lq (k.great c h.closed h.within) hi
  have h2 := lq (h.great _ k.closed k.within) hi
  omega
/-- What the region of the two calls of Close has left so far. -/
structure I9 (W : World) (F : Nat → Value) (p q : Nat → Nat) (vals : Vals) (w : World) : Prop where
  gr : Gr W w
  fx : ∀ k, k < 6 → ∀ y, vals k = some y → y = F k
  a : ∀ y, vals 6 = some y → ∃ b, y = .pointer (some ⟨b, 0, none⟩) ∧ W.heap.size ≤ b ∧ VBox w b (fun i => if (vals 8).isSome then p i else 0)
  b : ∀ y, vals 7 = some y → ∃ b, y = .pointer (some ⟨b, 0, none⟩) ∧ W.heap.size ≤ b ∧ VBox w b (fun i => if (vals 9).isSome then q i else 0)
  ne : ∀ b b', vals 6 = some (.pointer (some ⟨b, 0, none⟩)) → vals 7 = some (.pointer (some ⟨b', 0, none⟩)) → b ≠ b'
  sa : vals 6 = none → vals 8 = none
  sb : vals 7 = none → vals 9 = none
theorem I9.next {W : World} {F : Nat → Value} {p q : Nat → Nat} {vals : Vals} {w w' : World} (h : I9 W F p q vals w) (g : Gr w w') : I9 W F p q vals w' :=
  ⟨h.gr.trans g, h.fx, fun y hy => by obtain ⟨b, h1, h2, h3⟩ := h.a y hy; exact ⟨b, h1, h2, h3.gr g⟩, fun y hy => by obtain ⟨b, h1, h2, h3⟩ := h.b y hy; exact ⟨b, h1, h2, h3.gr g⟩, h.ne, h.sa, h.sb⟩
theorem I9.up {W : World} {F : Nat → Value} {p q : Nat → Nat} {vals : Vals} {w : World} (h : I9 W F p q vals w) {k : Nat} (hk : k < 6) : I9 W F p q (vals.up k (F k)) w := by
  have e : ∀ j, 6 ≤ j → vals.up k (F k) j = vals j := fun j hj => Vals.up_ne vals _ (by omega)
  refine ⟨h.gr, fun j hj y hy => ?_, ?_, ?_, ?_, ?_, ?_⟩
  · by_cases q : j = k
    · subst q
      rw [Vals.up_at] at hy
      injection hy with hy
      exact hy.symm
    · rw [Vals.up_ne vals _ q] at hy
      exact h.fx j hj y hy
  · rw [e 6 (by decide), e 8 (by decide)]; exact h.a
  · rw [e 7 (by decide), e 9 (by decide)]; exact h.b
  · rw [e 6 (by decide), e 7 (by decide)]; exact h.ne
  · rw [e 6 (by decide), e 8 (by decide)]; exact h.sa
  · rw [e 7 (by decide), e 9 (by decide)]; exact h.sb
theorem VBox.lt {w : World} {b : Nat} {a : Nat → Nat} (h : VBox w b a) : b < w.heap.size := (Array.getElem?_eq_some_iff.1 h.box).1
theorem I9.newA {W : World} {F : Nat → Value} {p q : Nat → Nat} {vals : Vals} {w : World} (h : I9 W F p q vals w) (hn : vals 6 = none) : I9 W F p q (vals.up 6 (.pointer (some ⟨w.heap.size, 0, none⟩))) (w.alloc (.cells V0 27)) := by
  have h1 := h.next ((Gr.refl w).alloc (.cells V0 27))
  have e : ∀ j, j ≠ 6 → vals.up 6 (.pointer (some ⟨w.heap.size, 0, none⟩)) j = vals j := fun j hj => Vals.up_ne vals _ hj
  refine ⟨h1.gr, fun j hj y hy => h.fx j hj y (by rw [← e j (by omega)]; exact hy), fun y hy => ?_, fun y hy => ?_, fun b b' hb hb' => ?_, fun hz => ?_, fun hz => ?_⟩
  · rw [Vals.up_at] at hy
    injection hy with hy
    refine ⟨w.heap.size, hy.symm, h.gr.size, ?_⟩
    rw [e 8 (by decide), h.sa hn]
    exact ⟨heap_alloc _ _ _⟩
  · rw [e 7 (by decide)] at hy
    obtain ⟨b, x1, x2, x3⟩ := h1.b y hy
    exact ⟨b, x1, x2, by rw [e 9 (by decide)]; exact x3⟩
  · rw [Vals.up_at] at hb
    rw [e 7 (by decide)] at hb'
    obtain ⟨b2, x1, _, x3⟩ := h.b _ hb'
    injection x1 with x1
    injection x1 with x1
    injection x1 with x1
    injection hb with hb
    injection hb with hb
    injection hb with hb
    injection hb with hb
    have := x3.lt
    omega
  · rw [Vals.up_at] at hz; cases hz
  · rw [e 7 (by decide)] at hz; rw [e 9 (by decide)]; exact h.sb hz
theorem I9.newB {W : World} {F : Nat → Value} {p q : Nat → Nat} {vals : Vals} {w : World} (h : I9 W F p q vals w) (hn : vals 7 = none) : I9 W F p q (vals.up 7 (.pointer (some ⟨w.heap.size, 0, none⟩))) (w.alloc (.cells V0 27)) := by
  have h1 := h.next ((Gr.refl w).alloc (.cells V0 27))
  have e : ∀ j, j ≠ 7 → vals.up 7 (.pointer (some ⟨w.heap.size, 0, none⟩)) j = vals j := fun j hj => Vals.up_ne vals _ hj
  refine ⟨h1.gr, fun j hj y hy => h.fx j hj y (by rw [← e j (by omega)]; exact hy), fun y hy => ?_, fun y hy => ?_, fun b b' hb hb' => ?_, fun hz => ?_, fun hz => ?_⟩
  · rw [e 6 (by decide)] at hy
    obtain ⟨b, x1, x2, x3⟩ := h1.a y hy
    exact ⟨b, x1, x2, by rw [e 8 (by decide)]; exact x3⟩
  · rw [Vals.up_at] at hy
    injection hy with hy
    refine ⟨w.heap.size, hy.symm, h.gr.size, ?_⟩
    rw [e 9 (by decide), h.sb hn]
    exact ⟨heap_alloc _ _ _⟩
  · rw [Vals.up_at] at hb'
    rw [e 6 (by decide)] at hb
    obtain ⟨b2, x1, _, x3⟩ := h.a _ hb
    injection x1 with x1
    injection x1 with x1
    injection x1 with x1
    injection hb' with hb'
    injection hb' with hb'
    injection hb' with hb'
    injection hb' with hb'
    have := x3.lt
    omega
  · rw [e 6 (by decide)] at hz; rw [e 8 (by decide)]; exact h.sa hz
  · rw [Vals.up_at] at hz; cases hz
theorem I9.putA {W : World} {F : Nat → Value} {p q : Nat → Nat} {vals : Vals} {w : World} {b : Nat} (h : I9 W F p q vals w) (hv : vals 6 = some (.pointer (some ⟨b, 0, none⟩))) : I9 W F p q (vals.up 8 undef) (putCells w b 0 (vcells p).toList) := by
  have e : ∀ j, j ≠ 8 → vals.up 8 undef j = vals j := fun j hj => Vals.up_ne vals _ hj
  obtain ⟨b1, x1, x2, x3⟩ := h.a _ hv
  injection x1 with x1
  injection x1 with x1
  injection x1 with x1
  subst x1
  obtain ⟨hk, hb⟩ := putV8 x3 p
  refine ⟨Gr.putCells x2 _ _ h.gr, fun j hj y hy => h.fx j hj y (by rw [← e j (by omega)]; exact hy), fun y hy => ?_, fun y hy => ?_, ?_, fun hz => ?_, fun hz => ?_⟩
  · rw [e 6 (by decide), hv] at hy
    injection hy with hy
    refine ⟨b, hy.symm, x2, ?_⟩
    rw [Vals.up_at]
    exact hb
  · rw [e 7 (by decide)] at hy
    obtain ⟨b2, y1, y2, y3⟩ := h.b y hy
    rw [e 9 (by decide)]
    subst y1
    exact ⟨b2, rfl, y2, ⟨by rw [hk _ (fun q => h.ne b b2 hv hy q.symm)]; exact y3.box⟩⟩
  · rw [e 6 (by decide), e 7 (by decide)]; exact h.ne
  · rw [e 6 (by decide), hv] at hz; cases hz
  · rw [e 7 (by decide)] at hz; rw [e 9 (by decide)]; exact h.sb hz
theorem I9.putB {W : World} {F : Nat → Value} {p q : Nat → Nat} {vals : Vals} {w : World} {b : Nat} (h : I9 W F p q vals w) (hv : vals 7 = some (.pointer (some ⟨b, 0, none⟩))) : I9 W F p q (vals.up 9 undef) (putCells w b 0 (vcells q).toList) := by
  have e : ∀ j, j ≠ 9 → vals.up 9 undef j = vals j := fun j hj => Vals.up_ne vals _ hj
  obtain ⟨b1, x1, x2, x3⟩ := h.b _ hv
  injection x1 with x1
  injection x1 with x1
  injection x1 with x1
  subst x1
  obtain ⟨hk, hb⟩ := putV8 x3 q
  refine ⟨Gr.putCells x2 _ _ h.gr, fun j hj y hy => h.fx j hj y (by rw [← e j (by omega)]; exact hy), fun y hy => ?_, fun y hy => ?_, ?_, fun hz => ?_, fun hz => ?_⟩
  · rw [e 6 (by decide)] at hy
    obtain ⟨b2, y1, y2, y3⟩ := h.a y hy
    rw [e 8 (by decide)]
    subst y1
    exact ⟨b2, rfl, y2, ⟨by rw [hk _ (h.ne b2 b hy hv)]; exact y3.box⟩⟩
  · rw [e 7 (by decide), hv] at hy
    injection hy with hy
    refine ⟨b, hy.symm, x2, ?_⟩
    rw [Vals.up_at]
    exact hb
  · rw [e 6 (by decide), e 7 (by decide)]; exact h.ne
  · rw [e 6 (by decide)] at hz; rw [e 8 (by decide)]; exact h.sa hz
  · rw [e 7 (by decide), hv] at hz; cases hz
theorem boxesCc (u : Nat → S3) (v x : Nat → Nat) (w : World) : ∃ W, W = ((w.alloc (.cells (lcells u) 24)).alloc (.cells (vcells v) 27)).alloc (.cells (vcells x) 27) ∧ Gr w W ∧
    LBox W w.heap.size u ∧ VBox W (w.heap.size + 1) v ∧ VBox W (w.heap.size + 1 + 1) x := by
  obtain ⟨W, hW, hg, hs, hL, hV⟩ := boxesLV u v w
  rw [← hW]
  have h1 := heap_alloc W (vcells x) 27
  rw [hs] at h1
  exact ⟨_, rfl, hg.alloc _, hL.gr ((Gr.refl _).alloc _), hV.gr ((Gr.refl _).alloc _), ⟨h1⟩⟩
theorem i9_start {w : World} {F : Nat → Value} {p q : Nat → Nat} : I9 w F p q (fun _ => none) w.drew :=
  ⟨(Gr.refl _).drew, fun _ _ _ h => (by cases h), fun _ h => (by cases h), fun _ h => (by cases h), fun _ _ h => (by cases h), fun _ => rfl, fun _ => rfl⟩
theorem slotE {A : Act} {t : Nat} {v : Value} (h : A.eval (.tmp t) = v) : A.tmps[t]?.getD undef = v := by
  rw [← Array.getD_eq_getD_getElem?]
  exact h
def F9 (u : Nat → S3) (v x p q : Nat → Nat) : Nat → Value
  | 0 => .agg (lcells u)
  | 1 => .agg (vcells v)
  | 2 => .agg (vcells p)
  | 3 => .agg (lcells u)
  | 4 => .agg (vcells x)
  | _ => .agg (vcells q)
end Go.Proofs.Ytlihcjlonafohaa
/- Walks: the predicate that unseen hands to DeleteFunc. -/
namespace Go.Proofs.Ytlihcjlonafohaa
open Go.RowKit Go.Joins
set_option linter.unusedSimpArgs false
set_option linter.unusedVariables false

/-- Whether a deed is seen: by what is counted of what it is about, or within its own transaction. -/
def unsD (F : ByteArray → Nat → Nat) (k : Int) (d : DD) : Bool := hasB (F (aboutT d.op)) d.t.origin d.t.seq || withinD k d
/-- A transaction's member and number lie at this place. -/
def HD (w : World) (b o : Nat) (t : TX) : Prop := w.cell? ⟨b, o, none⟩ = some (.int .i64 t.origin) ∧ w.cell? ⟨b, o + 1, none⟩ = some (.int .u64 (t.seq : Int))
theorem HD.gr {w w' : World} {b o : Nat} {t : TX} (h : HD w b o t) (g : Gr w w') : HD w' b o t := ⟨g.cell h.1, g.cell h.2⟩
theorem XCell.hcD {w : World} {b o : Nat} {t : TX} (h : XCell w b o t) : HD w b o t := by
  obtain ⟨v, -, x0, x1, -⟩ := h
  exact ⟨x0, x1⟩
def FU (bm : Nat) (dv o : Array Value) (s : ByteArray) (cv : Nat → Nat) : Nat → Option Value
  | 0 => some (.map (some bm))
  | 1 => some (.agg dv)
  | 2 => some (.agg o)
  | 3 => some (.string s)
  | 4 => some (.agg (vcells cv))
  | 5 => some (.agg (vcells cv))
  | _ => none
end Go.Proofs.Ytlihcjlonafohaa
/- Walks: unseen. -/
namespace Go.Proofs.Ytlihcjlonafohaa
open Go.RowKit Go.Joins Go.Maps
set_option linter.unusedSimpArgs false
set_option linter.unusedVariables false

/-- Every cell stays. -/
def Ck (w w' : World) : Prop := ∀ (p : Addr) (v : Value), w.cell? p = some v → w'.cell? p = some v
theorem Ck.refl (w : World) : Ck w w := fun _ _ h => h
theorem Ck.trans {a b c : World} (h : Ck a b) (k : Ck b c) : Ck a c := fun p v hc => k p v (h p v hc)
theorem Ck.of_gr {a b : World} (g : Gr a b) : Ck a b := fun p v hc => g.cell hc
theorem cell_mapless {w : World} {bm : Nat} {es : Array MapEntry} {clk : Nat} (hm : w.heap[bm]? = some (.map es clk)) {p : Addr} {v : Value} (hc : w.cell? p = some v) : p.block ≠ bm := by
  intro e
  unfold World.cell? at hc
  rw [e, hm] at hc
  simp at hc
theorem SeenM.ck {w w' : World} {b n : Nat} {F : ByteArray → Nat → Nat} (h : SeenM w b n F) (g : w.grownBy w' (some b)) : Ck w w' := by
  obtain ⟨D, ⟨es, clk, hb, -⟩, -, -⟩ := h
  exact fun p v hc => Kp.cell (show Kp (some b) w w' from g) hc fun e => cell_mapless hb hc (by injection e)
theorem TCell.ck {w w' : World} {b off : Nat} {o : TO} (h : TCell w b off o) (c : Ck w w') : TCell w' b off o := ⟨c _ _ h.1, c _ _ h.2.1, c _ _ h.2.2.1, c _ _ h.2.2.2⟩
theorem TOV.ck {w w' : World} {v : Value} {ops : List TO} (h : TOV w v ops) (c : Ck w w') : TOV w' v ops := by
  obtain ⟨A, cp, hv, h1, h2, h3⟩ := h
  exact ⟨A, cp, hv, h1, h2, fun j hj => by obtain ⟨b, off, ha, hc⟩ := h3 j hj; exact ⟨b, off, ha, hc.ck c⟩⟩
theorem DX.ck {w w' : World} {d : DD} (h : DX w d) (c : Ck w w') : DX w' d := by
  obtain ⟨⟨v, hv, h1, h2, h3, h4, h5, h6, h7, h8, h9, h10, h11, h12⟩, hi⟩ := h
  exact ⟨⟨v, hv.ck c, c _ _ h1, c _ _ h2, c _ _ h3, c _ _ h4, c _ _ h5, c _ _ h6, c _ _ h7, c _ _ h8, c _ _ h9, c _ _ h10, c _ _ h11, c _ _ h12⟩, hi⟩
theorem DV.ck {w w' : World} {v : Value} {L : List DD} (h : DV w v L) (c : Ck w w') : DV w' v L := by
  obtain ⟨A, cp, hv, h1, h2, h3⟩ := h
  exact ⟨A, cp, hv, h1, h2, fun j hj => by obtain ⟨b, off, ha, hc⟩ := h3 j hj; exact ⟨b, off, ha, c _ _ hc.1, c _ _ hc.2⟩⟩
/-- What is counted, of each thing, by the first j deeds. -/
def seenF (L : List DD) : Nat → ByteArray → Nat → Nat
  | 0 => fun _ _ => 0
  | j + 1 => match L[j]? with | some d => fun x => if x = aboutT d.op then jn (seenF L j (aboutT d.op)) d.t.deps else seenF L j x | none => seenF L j
theorem seenF_at {L : List DD} {j : Nat} {d : DD} (h : L[j]? = some d) : seenF L (j + 1) = fun x => if x = aboutT d.op then jn (seenF L j (aboutT d.op)) d.t.deps else seenF L j x := by
  show (match L[j]? with | some d => _ | none => _) = _
  rw [h]
/-- What the rounds leave. -/
structure UnS (w w2 : World) (bm : Nat) (L : List DD) (j : Nat) (wr : World) : Prop where
  m : SeenM wr bm j (seenF L j)
  ck : Ck w2 wr
  gr : Gr w wr
theorem UnS.next {w w2 : World} {bm : Nat} {L : List DD} {j : Nat} {wr w' : World} (h : UnS w w2 bm L j wr) (g : Gr wr w') : UnS w w2 bm L j w' := ⟨h.m.gr g, h.ck.trans (Ck.of_gr g), h.gr.trans g⟩
end Go.Proofs.Ytlihcjlonafohaa
