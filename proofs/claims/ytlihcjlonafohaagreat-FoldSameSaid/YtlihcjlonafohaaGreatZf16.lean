/- Join: its answer (joinR); walks: the document's Join. Owned logs outlive what is stored into boxes; the beginnings of logs, walked; what a region of such calls leaves. Walks: the program's needsOf. Walks: the program's Close. The law CutCloses. Walks: the predicate that unseen hands to DeleteFunc. Walks: unseen. Walks: value's firm. Walks: value's last. Walks: the value of a counter at a closed cut of logs that may be; the law's awake. Walks: valueOf of each kind. Written by wip/tools/genvo.py. Walks: Value, of any kind, at any cut of any logs. -/
import Derived.Test.YtlihcjlonafohaaGreatZf15
import Derived.Test.YtlihcjlonafohaaGreatZf09
import Derived.Test.YtlihcjlonafohaaGreatZf11
import Derived.Test.YtlihcjlonafohaaGreatZf12
import Derived.Deep.LoopGhost
import Derived.Test.YtlihcjlonafohaaGreatZf14
import Derived.Test.YtlihcjlonafohaaGreatZf06
import Derived.Test.YtlihcjlonafohaaGreatZf13
namespace Go.Proofs.YtlihcjlonafohaaGreat
open Go.RowKit Go.Joins
set_option linter.unusedSimpArgs false
set_option linter.unusedVariables false

theorem XV.take {w : World} {A : Option Addr} {n c k : Nat} {L : List TX} (h : XV w (.slice A n c) L) (hk : k ≤ n) : XV w (.slice A k c) (L.take k) := by
  obtain ⟨A', c', hv, h1, h2, h3⟩ := h
  injection hv with e1 e2 e3
  subst e1 e2 e3
  have hl : (L.take k).length = k := by rw [List.length_take]; omega
  refine ⟨A, c, by rw [hl], by omega, h2, fun j hj => ?_⟩
  obtain ⟨b, off, ha, hc⟩ := h3 j (by omega)
  exact ⟨b, off, ha, by rw [List.getElem_take]; exact hc⟩
/-- What Join's rounds leave: of the first k logs the longer one stands in the answer. -/
structure JrR (w : World) (u v : Nat → S3) (a b : LG) (P : Nat) (k : Nat) (us : Nat → S3) (wr : World) : Prop where
  xa : LBox wr w.heap.size u
  xb : LBox wr (w.heap.size + 1) v
  xz : LBox wr (w.heap.size + 1 + 1) Z3
  xo : LBox wr P us
  lv : ∀ j, j < k → us j = if (a j).length < (b j).length then v j else u j
  ok : ∀ j, j < k → sameL ((a j).take (b j).length) ((b j).take (a j).length) = true
  gr : Gr w wr
theorem JrR.next {w wr w' : World} {u v us : Nat → S3} {a b : LG} {P k : Nat} (h : JrR w u v a b P k us wr) (g : Gr wr w') : JrR w u v a b P k us w' :=
  ⟨h.xa.gr g, h.xb.gr g, h.xz.gr g, h.xo.gr g, h.lv, h.ok, h.gr.trans g⟩
theorem JrR.put {w wr : World} {u v us : Nat → S3} {a b : LG} {P k : Nat} (h : JrR w u v a b P k us wr) (hP : w.heap.size + 3 ≤ P) {j : Nat} (hj : k ≤ j) (h8 : j < 8) (A : Option Addr) (n c : Nat) : JrR w u v a b P k (updS us j ⟨A, n, c⟩) (wr.setCell ⟨P, j, none⟩ (.slice A n c)) :=
  ⟨h.xa.far (by simp only []; omega) _, h.xb.far (by simp only []; omega) _, h.xz.far (by simp only []; omega) _, h.xo.set h8 _ _ _, fun i hi => by
    show (if i = j then _ else us i) = _
    rw [if_neg (by omega)]; exact h.lv i hi, h.ok, h.gr.setCell (by show w.heap.size ≤ P; omega) _⟩
theorem JrR.more {w wr : World} {u v us : Nat → S3} {a b : LG} {P k : Nat} (h : JrR w u v a b P k us wr) (e : us k = if (a k).length < (b k).length then v k else u k) (hs : sameL ((a k).take (b k).length) ((b k).take (a k).length) = true) : JrR w u v a b P (k + 1) us wr :=
  ⟨h.xa, h.xb, h.xz, h.xo, fun j hj => by
    by_cases q : j = k
    · rw [q]; exact e
    · exact h.lv j (by omega), fun j hj => by
    by_cases q : j = k
    · rw [q]; exact hs
    · exact h.ok j (by omega), h.gr⟩
theorem JrR.end {w wr : World} {u v us : Nat → S3} {a b : LG} {P : Nat} (h : JrR w u v a b P 8 us wr) (ha : LV w u a) (hb : LV w v b) : LV wr us (jnL a b) := fun i hi => by
  rw [h.lv i hi]
  unfold jnL
  by_cases e : (a i).length < (b i).length
  · rw [if_pos e, if_pos e]; exact (hb i hi).gr h.gr
  · rw [if_neg e, if_neg e]; exact (ha i hi).gr h.gr

end Go.Proofs.YtlihcjlonafohaaGreat
namespace Go.Proofs.YtlihcjlonafohaaGreat
open Go.RowKit Go.Joins
set_option linter.unusedSimpArgs false
set_option linter.unusedVariables false

/-- The types of boxes: all but transactions and operations. -/
def btL (t : TypeId) : Bool := !(t == 45 || t == 92)
theorem XN.keeps {w w' : World} {B : Nat} {v : Value} {L : List TX} (h : XN w B v L) (k : Keeps btL w w') : XN w' B v L := by
  obtain ⟨R, h1, h2, h3⟩ := h
  exact ⟨R, h1, own_keeps h2 (by decide) k, fun r hr => own_keeps (h3 r hr) (by decide) k⟩
theorem LN.keeps {w w' : World} {B : Nat} {u : Nat → S3} {l : LG} (h : LN w B u l) (k : Keeps btL w w') : LN w' B u l := fun i hi => (h i hi).keeps k
theorem LN.le {w : World} {B B' : Nat} {u : Nat → S3} {l : LG} (h : LN w B u l) (hb : B' ≤ B) : LN w B' u l := fun i hi => (h i hi).le hb
theorem trs_take (R : List TR) (k : Nat) : (trs R).take (k * 12) = trs (R.take k) := rows_take trcells 12 (fun _ => rfl) R k
theorem XN.take {w : World} {B n c k : Nat} {A : Option Addr} {L : List TX} (h : XN w B (.slice A n c) L) (hk : k ≤ n) : XN w B (.slice A k c) (L.take k) := by
  obtain ⟨R, h1, h2, h3⟩ := h
  have h4 : w.ownsRow B 45 12 (.slice A n c) R.length (trs R) := h2
  obtain ⟨A', c', hv, -, -⟩ := own_form h4
  injection hv with e1 e2 e3
  subst e1 e2 e3
  rcases h4.2 with ⟨hh, h0⟩ | ⟨g, cap, cur, hh, hb, hg, hr⟩
  · injection hh with q1 q2 q3
    subst q1 q3
    obtain rfl : k = 0 := by omega
    exact ⟨[], by simp [texts], World.ownsRow_nil w B _ _, fun r hr => by cases hr⟩
  · injection hh with q1 q2 q3
    subst q1
    have h5 := own_prefix h4 hk
    rw [trs_take] at h5
    refine ⟨R.take k, ?_, ?_, fun r hr => h3 r (List.mem_of_mem_take hr)⟩
    · rw [← h1]; unfold texts; rw [List.map_take]
    · show w.ownsRow B _ 12 _ (R.take k).length _
      rw [List.length_take, Nat.min_eq_left hk]
      exact h5
theorem setCell_keeps {bt : TypeId → Bool} {w : World} {P : Nat} {z : Array Value} {t : TypeId} {fr : Nat × Nat} (h : w.heap[P]? = some (.cells z t fr)) (ht : bt t = true) (i : Nat) (v : Value) : Keeps bt w (w.setCell ⟨P, i, none⟩ v) := putCells_keeps h ht [v] i
/-- Of the first k logs the slices are cut. -/
def cutS (u : Nat → S3) (v : Nat → Nat) (k : Nat) : Nat → S3 := fun j => if j < k then ⟨(u j).a, v j, (u j).c⟩ else u j
theorem cutS_next (u : Nat → S3) (v : Nat → Nat) (k : Nat) : updS (cutS u v k) k ⟨(u k).a, v k, (u k).c⟩ = cutS u v (k + 1) := by
  funext j
  unfold updS cutS
  by_cases e : j = k
  · subst e; rw [if_pos rfl, if_pos (by omega)]
  · rw [if_neg e]
    by_cases q : j < k
    · rw [if_pos q, if_pos (by omega)]
    · rw [if_neg q, if_neg (by omega)]
/-- What the rounds of first leave. -/
structure FstR (w W : World) (v : Nat → Nat) (P B : Nat) (uk : Nat → S3) (l : LG) (k : Nat) (wr : World) : Prop where
  xo : LBox wr P (cutS uk v k)
  xz : LBox wr (w.heap.size + 1 + 1) Z3
  xv : VBox wr (w.heap.size + 1) v
  ln : LN wr B uk l
  gr : Gr W wr
theorem FstR.next {w W : World} {v : Nat → Nat} {P B : Nat} {uk : Nat → S3} {l : LG} {k : Nat} {wr w' : World} (h : FstR w W v P B uk l k wr) (g : Gr wr w') : FstR w W v P B uk l k w' :=
  ⟨h.xo.gr g, h.xz.gr g, h.xv.gr g, h.ln.keeps (Keeps.of_gr g), h.gr.trans g⟩
theorem FstR.more {w W : World} {v : Nat → Nat} {P B : Nat} {uk : Nat → S3} {l : LG} {k : Nat} {wr : World} (h : FstR w W v P B uk l k wr) (hP : w.heap.size + 3 ≤ P) (hW : W.heap.size = w.heap.size + 3) (hk : k < 8) : FstR w W v P B uk l (k + 1) (wr.setCell ⟨P, k, none⟩ (.slice (uk k).a (v k) (uk k).c)) :=
  ⟨by rw [← cutS_next]; exact h.xo.set hk _ _ _, h.xz.far (by simp only []; omega) _, h.xv.far (by simp only []; omega) _, h.ln.keeps (setCell_keeps h.xo.box (by decide) _ _), h.gr.setCell (by rw [hW]; simp only []; omega) _⟩
/-- The values of a region of such calls: plain ones, owned logs, owned logs beside an error's number. -/
structure QL (F : Nat → Option Value) (G : Nat → Option LG) (J : Nat → Option (LG × Nat)) (B : Nat) (k : Nat) (w : World) (y : Value) : Prop where
  f : ∀ v, F k = some v → y = v
  g : ∀ L, G k = some L → ∃ u, y = .agg (lcells u) ∧ LN w B u L
  j : ∀ L, J k = some L → ∃ u, y = .tuple #[.agg (lcells u), .int .i64 (L.2 : Int)] ∧ LN w B u L.1
theorem QL.st {F : Nat → Option Value} {G : Nat → Option LG} {J : Nat → Option (LG × Nat)} {B : Nat} : ∀ k y w1 w2, QL F G J B k w1 y → Keeps btL w1 w2 → QL F G J B k w2 y := fun k y w1 w2 h kp =>
  ⟨h.f, fun L hL => by obtain ⟨u, q1, q2⟩ := h.g L hL; exact ⟨u, q1, q2.keeps kp⟩, fun L hL => by obtain ⟨u, q1, q2⟩ := h.j L hL; exact ⟨u, q1, q2.keeps kp⟩⟩
end Go.Proofs.YtlihcjlonafohaaGreat
namespace Go.Proofs.YtlihcjlonafohaaGreat
open Go.RowKit Go.Joins

theorem VBox.kp {w w' : World} {g b : Nat} {a : Nat → Nat} (h : VBox w b a) (k : Kp (some g) w w') (hr : b ≠ g) : VBox w' b a := ⟨kp_obj k h.box (fun e => hr (Option.some.inj e).symm)⟩
theorem putCells_keep : ∀ (cs : List Value) (w : World) (g o : Nat) (x : Nat), x ≠ g → (putCells w g o cs).heap[x]? = w.heap[x]?
  | [], _, _, _, _, _ => rfl
  | u :: r, w, g, o, x, h => by
    show (putCells (w.setCell ⟨g, o, none⟩ u) g (o + 1) r).heap[x]? = _
    rw [putCells_keep r _ g (o + 1) x h, Go.Deep.blk_setCell_other _ _ _ _ h]
/-- A vector's box is stored anew. -/
theorem putV8 {w : World} {b : Nat} {a : Nat → Nat} (h : VBox w b a) (c : Nat → Nat) : (∀ x, x ≠ b → (putCells w b 0 (vcells c).toList).heap[x]? = w.heap[x]?) ∧ VBox (putCells w b 0 (vcells c).toList) b c := by
  refine ⟨fun x hx => putCells_keep _ _ _ _ _ hx, ⟨?_⟩⟩
  have h8 := (((((((h.set (k := 0) (by decide) (c 0)).set (k := 1) (by decide) (c 1)).set (k := 2) (by decide) (c 2)).set (k := 3) (by decide) (c 3)).set (k := 4) (by decide) (c 4)).set (k := 5) (by decide) (c 5)).set (k := 6) (by decide) (c 6)).set (k := 7) (by decide) (c 7)
  exact h8.box
end Go.Proofs.YtlihcjlonafohaaGreat
namespace Go.Proofs.YtlihcjlonafohaaGreat
open Go.RowKit Go.Joins

def sumTo (v : Nat → Nat) : Nat → Nat
  | 0 => 0
  | k + 1 => sumTo v k + v k
def sumV (v : Nat → Nat) : Nat := sumTo v 8
theorem sumTo_past {v : Nat → Nat} {k x : Nat} : ∀ {n : Nat}, n ≤ k → sumTo (upd v k x) n = sumTo v n
  | 0, _ => rfl
  | n + 1, h => by
    show sumTo (upd v k x) n + upd v k x n = sumTo v n + v n
    rw [sumTo_past (n := n) (by omega)]
    unfold upd
    rw [if_neg (by omega)]
theorem sumTo_upd {v : Nat → Nat} {k x : Nat} : ∀ {n : Nat}, k < n → sumTo (upd v k x) n + v k = sumTo v n + x
  | 0, h => by omega
  | n + 1, h => by
    show sumTo (upd v k x) n + upd v k x n + v k = sumTo v n + v n + x
    by_cases e : k = n
    · subst e
      rw [sumTo_past (Nat.le_refl _)]
      unfold upd
      rw [if_pos rfl]
      omega
    · have ih := sumTo_upd (v := v) (k := k) (x := x) (n := n) (by omega)
      have : upd v k x n = v n := if_neg (fun q => e q.symm)
      rw [this]
      omega
/-- The cut's last transaction of member j, and all ahead of it, depend on nothing beyond the cut. -/
def fine (l : LG) (v : Nat → Nat) (j : Nat) : Prop := v j = 0 ∨ leqB (needV (l j) (v j)) v = true
theorem close_done {l : LG} {v : Nat → Nat} (h : ∀ j, j < 8 → fine l v j) (hs : leqB v (sizeV l) = true) : closedP l v := by
  refine ⟨hs, fun i k t hi hk ht => ?_⟩
  rcases h i hi with h0 | h0
  · omega
  · exact (needV_le (lq hs hi)).1 h0 k t hk ht
theorem close_step {l : LG} {v0 v : Nat → Nat} {k : Nat} (hs : leqB v (sizeV l) = true) (hk : k < 8) (h : ∀ u, closedP l u → leqB u v0 = true → leqB u v = true) (hn : leqB (needV (l k) (v k)) v = false) : ∀ u, closedP l u → leqB u v0 = true → leqB u (upd v k (v k - 1)) = true := by
  intro u hu h0
  have h1 := h u hu h0
  refine lq_of fun j hj => ?_
  unfold upd
  by_cases e : j = k
  · subst e
    rw [if_pos rfl]
    have h2 := lq h1 hj
    rcases Nat.lt_or_ge (u j) (v j) with q | q
    · omega
    · exfalso
      have e2 : u j = v j := by omega
      have : leqB (needV (l j) (v j)) v = true := (needV_le (lq hs hj)).2 fun d t hd ht => lq_trans (hu.2 j d t hj (by omega) ht) h1
      rw [hn] at this
      cases this
  · rw [if_neg e]
    exact lq h1 hj
theorem boxesCl (u : Nat → S3) (v : Nat → Nat) (w : World) : ∃ W, W = ((w.alloc (.cells (lcells u) 24)).alloc (.cells (vcells v) 27)).alloc (.cells V0 27) ∧ Gr w W ∧ W.heap.size = w.heap.size + 3 ∧
    LBox W w.heap.size u ∧ VBox W (w.heap.size + 1) v ∧ VBox W (w.heap.size + 1 + 1) (fun _ => 0) := by
  obtain ⟨W, hW, hg, hs, hL, hV⟩ := boxesLV u v w
  rw [← hW]
  have h1 := heap_alloc W V0 27
  rw [hs] at h1
  exact ⟨_, rfl, hg.alloc _, by simp [hs], hL.gr ((Gr.refl _).alloc _), hV.gr ((Gr.refl _).alloc _), ⟨h1⟩⟩
/-- The cut is within the first one, and no closed cut within that is above it. -/
structure ClI (l : LG) (v0 v : Nat → Nat) : Prop where
  le : leqB v v0 = true
  up : ∀ u, closedP l u → leqB u v0 = true → leqB u v = true
/-- Eight cells of a vector at this place. -/
def VCo (w : World) (b o : Nat) (a : Nat → Nat) : Prop := w.cell? ⟨b, o, none⟩ = some (.int .u64 (a 0 : Int)) ∧ w.cell? ⟨b, o + 1, none⟩ = some (.int .u64 (a 1 : Int)) ∧ w.cell? ⟨b, o + 2, none⟩ = some (.int .u64 (a 2 : Int)) ∧ w.cell? ⟨b, o + 3, none⟩ = some (.int .u64 (a 3 : Int)) ∧ w.cell? ⟨b, o + 4, none⟩ = some (.int .u64 (a 4 : Int)) ∧ w.cell? ⟨b, o + 5, none⟩ = some (.int .u64 (a 5 : Int)) ∧ w.cell? ⟨b, o + 6, none⟩ = some (.int .u64 (a 6 : Int)) ∧ w.cell? ⟨b, o + 7, none⟩ = some (.int .u64 (a 7 : Int))
theorem VCo.gr {w w' : World} {b o : Nat} {a : Nat → Nat} (h : VCo w b o a) (g : Gr w w') : VCo w' b o a := by
  obtain ⟨h0, h1, h2, h3, h4, h5, h6, h7⟩ := h
  exact ⟨g.cell h0, g.cell h1, g.cell h2, g.cell h3, g.cell h4, g.cell h5, g.cell h6, g.cell h7⟩
theorem mt_le (v : Nat → Nat) (l : LG) : leqB (mt v (sizeV l)) (sizeV l) = true := lq_of fun _ _ => Nat.min_le_right _ _

end Go.Proofs.YtlihcjlonafohaaGreat
namespace Go.Proofs.YtlihcjlonafohaaGreat
open Go.RowKit Go.Joins

theorem close_ex (l : LG) (v0 : Nat → Nat) (hs0 : leqB v0 (sizeV l) = true) : ∀ (n : Nat) (v : Nat → Nat), sumV v ≤ n → ClI l v0 v → ∃ c, IsClose l v0 c := by
  intro n
  induction n with
  | zero =>
    intro v hn hi
    have hz : ∀ j, j < 8 → v j = 0 := fun j hj => by
      have h1 := sumTo_upd (v := v) (k := j) (x := 0) (n := 8) hj
      unfold sumV at hn
      omega
    exact ⟨v, close_done (fun j hj => .inl (hz j hj)) (lq_trans hi.le hs0), hi.le, hi.up⟩
  | succ n ih =>
    intro v hn hi
    by_cases hall : ∀ j, j < 8 → fine l v j
    · exact ⟨v, close_done hall (lq_trans hi.le hs0), hi.le, hi.up⟩
    · obtain ⟨k, hk⟩ := Classical.not_forall.1 hall
      obtain ⟨h8, hnf⟩ := Classical.not_imp.1 hk
      have h1 : v k ≠ 0 := fun e => hnf (.inl e)
      have h2 : leqB (needV (l k) (v k)) v = false := by
        rw [Bool.eq_false_iff]
        exact fun e => hnf (.inr e)
      have h3 := sumTo_upd (v := v) (k := k) (x := v k - 1) (n := 8) h8
      refine ih (upd v k (v k - 1)) (by unfold sumV at hn ⊢; omega) ⟨lq_of fun j hj => ?_, close_step (lq_trans hi.le hs0) h8 hi.up h2⟩
      have h4 := lq hi.le hj
      unfold upd
      by_cases q : j = k
      · subst q; rw [if_pos rfl]; omega
      · rw [if_neg q]; exact h4
theorem close_is (l : LG) (v : Nat → Nat) : ∃ c, IsClose l v c := by
  obtain ⟨c, hc⟩ := close_ex l (mt v (sizeV l)) (mt_le v l) _ _ (Nat.le_refl _) ⟨lq_refl _, fun _ _ h => h⟩
  refine ⟨c, hc.closed, lq_trans hc.within (lq_of fun _ _ => Nat.min_le_left _ _), fun u hu huv => hc.great u hu (lq_of fun i hi => ?_)⟩
  have h1 := lq huv hi
  have h2 : u i ≤ sizeV l i := lq hu.1 hi
  show _ ≤ min _ _
  omega
noncomputable def closeV (l : LG) (v : Nat → Nat) : Nat → Nat := Classical.choose (close_is l v)
theorem closeV_is (l : LG) (v : Nat → Nat) : IsClose l v (closeV l v) := Classical.choose_spec (close_is l v)
theorem vcells_congr {a b : Nat → Nat} (h : ∀ i, i < 8 → a i = b i) : vcells a = vcells b := by
  simp only [vcells, h 0 (by decide), h 1 (by decide), h 2 (by decide), h 3 (by decide), h 4 (by decide), h 5 (by decide), h 6 (by decide), h 7 (by decide)]
theorem close_eq {l : LG} {v c : Nat → Nat} (h : IsClose l v c) : vcells c = vcells (closeV l v) := vcells_congr fun i hi => by
  have k := closeV_is l v
  have h1 := lq (k.great c h.closed h.within) hi
  have h2 := lq (h.great _ k.closed k.within) hi
  omega
/-- What the region of the two calls of Close has left so far. -/
structure I9 (W : World) (F : Nat → Value) (p q : Nat → Nat) (vals : Vals) (w : World) : Prop where
  gr : Gr W w
  fx : ∀ k, k < 6 → ∀ y, vals k = some y → y = F k
  a : ∀ y, vals 6 = some y → ∃ b, y = .pointer (some ⟨b, 0, none⟩) ∧ W.heap.size ≤ b ∧ VBox w b (fun i => if (vals 8).isSome then p i else 0)
  b : ∀ y, vals 7 = some y → ∃ b, y = .pointer (some ⟨b, 0, none⟩) ∧ W.heap.size ≤ b ∧ VBox w b (fun i => if (vals 9).isSome then q i else 0)
  ne : ∀ b b', vals 6 = some (.pointer (some ⟨b, 0, none⟩)) → vals 7 = some (.pointer (some ⟨b', 0, none⟩)) → b ≠ b'
  sa : vals 6 = none → vals 8 = none
  sb : vals 7 = none → vals 9 = none
theorem I9.next {W : World} {F : Nat → Value} {p q : Nat → Nat} {vals : Vals} {w w' : World} (h : I9 W F p q vals w) (g : Gr w w') : I9 W F p q vals w' :=
  ⟨h.gr.trans g, h.fx, fun y hy => by obtain ⟨b, h1, h2, h3⟩ := h.a y hy; exact ⟨b, h1, h2, h3.gr g⟩, fun y hy => by obtain ⟨b, h1, h2, h3⟩ := h.b y hy; exact ⟨b, h1, h2, h3.gr g⟩, h.ne, h.sa, h.sb⟩
theorem I9.up {W : World} {F : Nat → Value} {p q : Nat → Nat} {vals : Vals} {w : World} (h : I9 W F p q vals w) {k : Nat} (hk : k < 6) : I9 W F p q (vals.up k (F k)) w := by
  have e : ∀ j, 6 ≤ j → vals.up k (F k) j = vals j := fun j hj => Vals.up_ne vals _ (by omega)
  refine ⟨h.gr, fun j hj y hy => ?_, ?_, ?_, ?_, ?_, ?_⟩
  · by_cases q : j = k
    · subst q
      rw [Vals.up_at] at hy
      injection hy with hy
      exact hy.symm
    · rw [Vals.up_ne vals _ q] at hy
      exact h.fx j hj y hy
  · rw [e 6 (by decide), e 8 (by decide)]; exact h.a
  · rw [e 7 (by decide), e 9 (by decide)]; exact h.b
  · rw [e 6 (by decide), e 7 (by decide)]; exact h.ne
  · rw [e 6 (by decide), e 8 (by decide)]; exact h.sa
  · rw [e 7 (by decide), e 9 (by decide)]; exact h.sb
theorem VBox.lt {w : World} {b : Nat} {a : Nat → Nat} (h : VBox w b a) : b < w.heap.size := (Array.getElem?_eq_some_iff.1 h.box).1
theorem I9.putA {W : World} {F : Nat → Value} {p q : Nat → Nat} {vals : Vals} {w : World} {b : Nat} (h : I9 W F p q vals w) (hv : vals 6 = some (.pointer (some ⟨b, 0, none⟩))) : I9 W F p q (vals.up 8 undef) (putCells w b 0 (vcells p).toList) := by
  have e : ∀ j, j ≠ 8 → vals.up 8 undef j = vals j := fun j hj => Vals.up_ne vals _ hj
  obtain ⟨b1, x1, x2, x3⟩ := h.a _ hv
  injection x1 with x1
  injection x1 with x1
  injection x1 with x1
  subst x1
  obtain ⟨hk, hb⟩ := putV8 x3 p
  refine ⟨Gr.putCells x2 _ _ h.gr, fun j hj y hy => h.fx j hj y (by rw [← e j (by omega)]; exact hy), fun y hy => ?_, fun y hy => ?_, ?_, fun hz => ?_, fun hz => ?_⟩
  · rw [e 6 (by decide), hv] at hy
    injection hy with hy
    refine ⟨b, hy.symm, x2, ?_⟩
    rw [Vals.up_at]
    exact hb
  · rw [e 7 (by decide)] at hy
    obtain ⟨b2, y1, y2, y3⟩ := h.b y hy
    rw [e 9 (by decide)]
    subst y1
    exact ⟨b2, rfl, y2, ⟨by rw [hk _ (fun q => h.ne b b2 hv hy q.symm)]; exact y3.box⟩⟩
  · rw [e 6 (by decide), e 7 (by decide)]; exact h.ne
  · rw [e 6 (by decide), hv] at hz; cases hz
  · rw [e 7 (by decide)] at hz; rw [e 9 (by decide)]; exact h.sb hz
theorem slotE {A : Act} {t : Nat} {v : Value} (h : A.eval (.tmp t) = v) : A.tmps[t]?.getD undef = v := by
  rw [← Array.getD_eq_getD_getElem?]
  exact h
end Go.Proofs.YtlihcjlonafohaaGreat
namespace Go.Proofs.YtlihcjlonafohaaGreat
open Go.RowKit Go.Joins
set_option linter.unusedSimpArgs false
set_option linter.unusedVariables false

/-- A transaction's member and number lie at this place. -/
def HD (w : World) (b o : Nat) (t : TX) : Prop := w.cell? ⟨b, o, none⟩ = some (.int .i64 t.origin) ∧ w.cell? ⟨b, o + 1, none⟩ = some (.int .u64 (t.seq : Int))
theorem HD.gr {w w' : World} {b o : Nat} {t : TX} (h : HD w b o t) (g : Gr w w') : HD w' b o t := ⟨g.cell h.1, g.cell h.2⟩
end Go.Proofs.YtlihcjlonafohaaGreat
namespace Go.Proofs.YtlihcjlonafohaaGreat
open Go.RowKit Go.Joins Go.Maps
set_option linter.unusedSimpArgs false
set_option linter.unusedVariables false

/-- Every cell stays. -/
def Ck (w w' : World) : Prop := ∀ (p : Addr) (v : Value), w.cell? p = some v → w'.cell? p = some v
theorem Ck.refl (w : World) : Ck w w := fun _ _ h => h
theorem Ck.trans {a b c : World} (h : Ck a b) (k : Ck b c) : Ck a c := fun p v hc => k p v (h p v hc)
theorem Ck.of_gr {a b : World} (g : Gr a b) : Ck a b := fun p v hc => g.cell hc
theorem cell_mapless {w : World} {bm : Nat} {es : Array MapEntry} {clk : Nat} (hm : w.heap[bm]? = some (.map es clk)) {p : Addr} {v : Value} (hc : w.cell? p = some v) : p.block ≠ bm := by
  intro e
  unfold World.cell? at hc
  rw [e, hm] at hc
  simp at hc
theorem SeenM.ck {w w' : World} {b n : Nat} {F : ByteArray → Nat → Nat} (h : SeenM w b n F) (g : w.grownBy w' (some b)) : Ck w w' := by
  obtain ⟨D, ⟨es, clk, hb, -⟩, -, -⟩ := h
  exact fun p v hc => Kp.cell (show Kp (some b) w w' from g) hc fun e => cell_mapless hb hc (by injection e)
theorem TCell.ck {w w' : World} {b off : Nat} {o : TO} (h : TCell w b off o) (c : Ck w w') : TCell w' b off o := ⟨c _ _ h.1, c _ _ h.2.1, c _ _ h.2.2.1, c _ _ h.2.2.2⟩
theorem TOV.ck {w w' : World} {v : Value} {ops : List TO} (h : TOV w v ops) (c : Ck w w') : TOV w' v ops := by
  obtain ⟨A, cp, hv, h1, h2, h3⟩ := h
  exact ⟨A, cp, hv, h1, h2, fun j hj => by obtain ⟨b, off, ha, hc⟩ := h3 j hj; exact ⟨b, off, ha, hc.ck c⟩⟩
theorem DX.ck {w w' : World} {d : DD} (h : DX w d) (c : Ck w w') : DX w' d := by
  obtain ⟨⟨v, hv, h1, h2, h3, h4, h5, h6, h7, h8, h9, h10, h11, h12⟩, hi⟩ := h
  exact ⟨⟨v, hv.ck c, c _ _ h1, c _ _ h2, c _ _ h3, c _ _ h4, c _ _ h5, c _ _ h6, c _ _ h7, c _ _ h8, c _ _ h9, c _ _ h10, c _ _ h11, c _ _ h12⟩, hi⟩
theorem DV.ck {w w' : World} {v : Value} {L : List DD} (h : DV w v L) (c : Ck w w') : DV w' v L := by
  obtain ⟨A, cp, hv, h1, h2, h3⟩ := h
  exact ⟨A, cp, hv, h1, h2, fun j hj => by obtain ⟨b, off, ha, hc⟩ := h3 j hj; exact ⟨b, off, ha, c _ _ hc.1, c _ _ hc.2⟩⟩
/-- What is counted, of each thing, by the first j deeds. -/
def seenF (L : List DD) : Nat → ByteArray → Nat → Nat
  | 0 => fun _ _ => 0
  | j + 1 => match L[j]? with | some d => fun x => if x = aboutT d.op then jn (seenF L j (aboutT d.op)) d.t.deps else seenF L j x | none => seenF L j
/-- What the rounds leave. -/
structure UnS (w w2 : World) (bm : Nat) (L : List DD) (j : Nat) (wr : World) : Prop where
  m : SeenM wr bm j (seenF L j)
  ck : Ck w2 wr
  gr : Gr w wr
theorem UnS.next {w w2 : World} {bm : Nat} {L : List DD} {j : Nat} {wr w' : World} (h : UnS w w2 bm L j wr) (g : Gr wr w') : UnS w w2 bm L j w' := ⟨h.m.gr g, h.ck.trans (Ck.of_gr g), h.gr.trans g⟩
end Go.Proofs.YtlihcjlonafohaaGreat
namespace Go.Proofs.YtlihcjlonafohaaGreat
open Go.RowKit Go.Joins
set_option linter.unusedSimpArgs false
set_option linter.unusedVariables false

theorem Kp.cellNe {g : Nat} {w w' : World} (k : Kp (some g) w w') {p : Addr} {v : Value} (h : w.cell? p = some v) (hne : p.block ≠ g) : w'.cell? p = some v := by
  have hlt : p.block < w.heap.size := by
    rcases Nat.lt_or_ge p.block w.heap.size with c | c
    · exact c
    · have hn : w.heap[p.block]? = none := by simp; omega
      unfold World.cell? at h
      rw [hn] at h
      simp at h
  have hb := k.block p.block hlt (fun e => hne (Option.some.inj e))
  unfold World.cell? at h ⊢
  rw [hb]
  exact h
end Go.Proofs.YtlihcjlonafohaaGreat
namespace Go.Proofs.YtlihcjlonafohaaGreat
open Go.RowKit Go.Joins
set_option linter.unusedSimpArgs false
set_option linter.unusedVariables false

/-- How the best one so far lies: none, or a row of one. -/
def TopV (w : World) (s : Value) (o : Option DD) : Prop :=
  match o with
  | none => s = .slice none 0 0
  | some t => ∃ b, s = .slice (some ⟨b, 0, none⟩) 1 1 ∧ DCell w b 0 t
theorem TopV.gr {w w' : World} {s : Value} {o : Option DD} (h : TopV w s o) (g : Gr w w') : TopV w' s o := by
  cases o with
  | none => exact h
  | some t => obtain ⟨b, h1, h2⟩ := h; exact ⟨b, h1, h2.gr g⟩
end Go.Proofs.YtlihcjlonafohaaGreat
namespace Go.Proofs.YtlihcjlonafohaaGreat
open Go.RowKit Go.Joins

abbrev valv (n : Int) : Array Value := #[.int .i64 n, .slice none 0 0, .bool false]
/-- What a counter's operations add. -/
def opAt (t : TX) (i : Nat) : TO := t.ops.getD i ⟨0, ⟨#[]⟩, ⟨#[]⟩, 0⟩
theorem boxesVa (u : Nat → S3) (v : Nat → Nat) (w : World) : ∃ W, W = ((w.alloc (.cells (lcells u) 24)).alloc (.cells (vcells v) 27)).alloc (.cells (valv 0) 49) ∧ Gr w W ∧
    LBox W w.heap.size u ∧ VBox W (w.heap.size + 1) v ∧ W.heap[w.heap.size + 1 + 1]? = some (.cells (valv 0) 49 (0, 0)) := by
  obtain ⟨W, hW, hg, hs, hL, hV⟩ := boxesLV u v w
  rw [← hW]
  have h1 := heap_alloc W (valv 0) 49
  rw [hs] at h1
  exact ⟨_, rfl, hg.alloc _, hL.gr ((Gr.refl _).alloc _), hV.gr ((Gr.refl _).alloc _), h1⟩

end Go.Proofs.YtlihcjlonafohaaGreat
namespace Go.Proofs.YtlihcjlonafohaaGreat
open Go.RowKit Go.Joins
set_option linter.unusedSimpArgs false
set_option linter.unusedVariables false

/-- A key's value. -/
structure VR where
  n : Int
  e : List ByteArray
  on : Bool
end Go.Proofs.YtlihcjlonafohaaGreat
namespace Go.Proofs.YtlihcjlonafohaaGreat
open Go.RowKit Go.Joins
set_option linter.unusedSimpArgs false
set_option linter.unusedVariables false

/-- Which error Value answers. -/
def valE (kind : Int) (l : LG) (v : Nat → Nat) : Nat := if kind < 1 ∨ 8 < kind then 100 else if checkE l = 0 then (if closedB l v = true then 0 else 92) else checkE l
def RetValE (r : VR) (k : Nat) (w : World) (e : Ending) (w' : World) : Prop := ∃ ve, e = .returned (.tuple #[.agg #[.int .i64 r.n, ve, .bool r.on], .int .i64 (k : Int)]) ∧ SO w' w.heap.size ve r.e ∧ Gr w w'
end Go.Proofs.YtlihcjlonafohaaGreat
