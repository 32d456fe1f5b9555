/- Texts CutH, CutI, CutK, CutN, joined. -/
import Derived.Test.YtjpiemgpbakfaaaG13
import Derived.Test.YtjpiemgpbakfaaaG14
import Derived.Deep.LoopGhost
import Derived.Test.YtjpiemgpbakfaaaG15
import Derived.Test.YtjpiemgpbakfaaaG11
/- Walks: the program's needsOf. -/
namespace Go.Proofs.Ytjpiemgpbakfaaa
open Go.RowKit Go.Joins

/-- All that the first k + 1 transactions of a log depend on. -/
def needV (L : List TX) : Nat → (Nat → Nat)
  | 0 => fun _ => 0
  | k + 1 => match L[k]? with | some t => jn (needV L k) t.deps | none => needV L k
theorem needV_next {L : List TX} {k : Nat} {t : TX} (h : L[k]? = some t) : needV L (k + 1) = jn (needV L k) t.deps := by
  show (match L[k]? with | some t => _ | none => _) = _
  rw [h]
theorem needV_le {L : List TX} {v : Nat → Nat} : ∀ {k : Nat}, k ≤ L.length → (leqB (needV L k) v = true ↔ ∀ d t, d < k → L[d]? = some t → leqB t.deps v = true)
  | 0, _ => ⟨fun _ d t hd => absurd hd (Nat.not_lt_zero _), fun _ => lq_of fun _ _ => Nat.zero_le _⟩
  | k + 1, hk => by
    have ht : L[k]? = some L[k] := List.getElem?_eq_getElem (by omega)
    rw [needV_next ht]
    have ih := needV_le (L := L) (v := v) (k := k) (by omega)
    refine ⟨fun h d t hd hdt => ?_, fun h => lq_of fun i hi => ?_⟩
    · by_cases e : d = k
      · subst e
        rw [ht] at hdt
        injection hdt with hdt
        subst hdt
        refine lq_of fun i hi => ?_
        have : max _ _ ≤ _ := lq h hi
        omega
      · refine ih.1 (lq_of fun i hi => ?_) d t (by omega) hdt
        have : max _ _ ≤ _ := lq h hi
        omega
    · have h1 := lq (ih.2 fun d t hd hdt => h d t (by omega) hdt) hi
      have h2 := lq (h k _ (Nat.lt_succ_self _) ht) hi
      show max _ _ ≤ _
      omega
/-- The cells of n vectors. -/
def vrows (f : Nat → Nat → Nat) (n : Nat) : List Value := (List.range n).flatMap fun k => (vcells (f k)).toList
theorem vrows_len (f : Nat → Nat → Nat) (n : Nat) : (vrows f n).length = n * 8 := by
  unfold vrows
  rw [rows_len _ 8 (fun _ => rfl), List.length_range]
theorem vrows_at (f : Nat → Nat → Nat) {n k r : Nat} (hk : k < n) (hr : r < 8) : (vrows f n)[k * 8 + r]? = some (.int .u64 (f k r : Int)) := by
  unfold vrows
  rw [rows_at (fun k => (vcells (f k)).toList) 8 (fun _ => rfl) (List.range n) k r (by rw [List.length_range]; exact hk) hr, List.getElem_range]
  rw [Array.getElem?_toList]
  exact vcells_at (f k) hr
theorem vrows_set (f : Nat → Nat → Nat) {n k : Nat} (hk : k < n) (a : Nat → Nat) : setFrom (vrows f n) (k * 8) (vcells a).toList = vrows (fun i => if i = k then a else f i) n := by
  refine List.ext_getElem? fun j => ?_
  have hl := vrows_len f n
  have hkn : k * 8 + 8 ≤ n * 8 := by omega
  rw [setFrom_at _ _ _ _ (by rw [hl]; exact hkn)]
  rcases Nat.lt_or_ge j (n * 8) with hj | hj
  · obtain ⟨q, r, rfl, hr⟩ : ∃ q r, j = q * 8 + r ∧ r < 8 := ⟨j / 8, j % 8, by omega, Nat.mod_lt _ (by decide)⟩
    have hq : q < n := by omega
    have e2 : (vrows (fun i => if i = k then a else f i) n)[q * 8 + r]? = some (.int .u64 ((if q = k then a else f q) r : Int)) := vrows_at (fun i => if i = k then a else f i) hq hr
    rw [e2]
    by_cases e : q = k
    · subst e
      rw [if_pos (by show _ ∧ _ < q * 8 + 8; omega), show q * 8 + r - q * 8 = r by omega, if_pos rfl, Array.getElem?_toList]
      exact vcells_at a hr
    · rw [if_neg (by show ¬ (_ ∧ _ < k * 8 + 8); omega), vrows_at f hq hr, if_neg e]
  · rw [if_neg (by show ¬ (_ ∧ _ < k * 8 + 8); omega), List.getElem?_eq_none (by rw [hl]; exact hj), List.getElem?_eq_none (by rw [vrows_len]; exact hj)]
theorem infoVec9 : (Try.prog.info? 30).map (fun i => (i.zero, i.size, i.bytes)) = some (some (.agg V0), 8, 64) := by kernel_rfl
theorem madeV : ∀ n, (madeCells (Value.agg V0).cells (n * 8)).toList = vrows (fun _ _ => 0) n := by
  intro n
  refine List.ext_getElem? fun j => ?_
  have hs : (madeCells (Value.agg V0).cells (n * 8)).size = n * 8 := by simp [madeCells]
  rcases Nat.lt_or_ge j (n * 8) with hj | hj
  · obtain ⟨q, r, rfl, hr⟩ : ∃ q r, j = q * 8 + r ∧ r < 8 := ⟨j / 8, j % 8, by omega, Nat.mod_lt _ (by decide)⟩
    rw [vrows_at _ (by omega) hr, Array.getElem?_toList]
    have hm : (q * 8 + r) % 8 = r := by omega
    simp only [madeCells]
    rw [Array.getElem?_map, Array.getElem?_range, if_pos hj]
    show some ((Value.agg V0).cells[(q * 8 + r) % 8]!) = _
    rw [hm]
    match r, hr with
    | 0, _ => rfl
    | 1, _ => rfl
    | 2, _ => rfl
    | 3, _ => rfl
    | 4, _ => rfl
    | 5, _ => rfl
    | 6, _ => rfl
    | 7, _ => rfl
  · rw [List.getElem?_eq_none (by rw [Array.length_toList, hs]; exact hj), List.getElem?_eq_none (by rw [vrows_len]; exact hj)]
end Go.Proofs.Ytjpiemgpbakfaaa
/- Walks: the program's needsOf. -/
namespace Go.Proofs.Ytjpiemgpbakfaaa
open Go.RowKit Go.Joins

abbrev S0 : Nat → S3 := fun _ => ⟨none, 0, 0⟩
theorem VBox.kp {w w' : World} {g b : Nat} {a : Nat → Nat} (h : VBox w b a) (k : Kp (some g) w w') (hr : b ≠ g) : VBox w' b a := ⟨kp_obj k h.box (fun e => hr (Option.some.inj e).symm)⟩
/-- A row of vectors that the call owns. -/
def RN (w : World) (B : Nat) (s : S3) (f : Nat → Nat → Nat) (n : Nat) : Prop := w.ownsRow B 30 8 (.slice s.a s.n s.c) n (vrows f n)
def needF (l : LG) (i : Nat) : Nat → Nat → Nat := fun k => needV (l i) (k + 1)
theorem putCells_size : ∀ (cs : List Value) (w : World) (g o : Nat), (putCells w g o cs).heap.size = w.heap.size
  | [], _, _, _ => rfl
  | u :: r, w, g, o => by
    show (putCells (w.setCell ⟨g, o, none⟩ u) g (o + 1) r).heap.size = _
    rw [putCells_size r]
    simp [World.setCell]
theorem putCells_keep : ∀ (cs : List Value) (w : World) (g o : Nat) (x : Nat), x ≠ g → (putCells w g o cs).heap[x]? = w.heap[x]?
  | [], _, _, _, _, _ => rfl
  | u :: r, w, g, o, x, h => by
    show (putCells (w.setCell ⟨g, o, none⟩ u) g (o + 1) r).heap[x]? = _
    rw [putCells_keep r _ g (o + 1) x h, Go.Deep.blk_setCell_other _ _ _ _ h]
/-- A vector's box is stored anew. -/
theorem putV8 {w : World} {b : Nat} {a : Nat → Nat} (h : VBox w b a) (c : Nat → Nat) : (∀ x, x ≠ b → (putCells w b 0 (vcells c).toList).heap[x]? = w.heap[x]?) ∧ VBox (putCells w b 0 (vcells c).toList) b c := by
  refine ⟨fun x hx => putCells_keep _ _ _ _ _ hx, ⟨?_⟩⟩
  have h8 := (((((((h.set (k := 0) (by decide) (c 0)).set (k := 1) (by decide) (c 1)).set (k := 2) (by decide) (c 2)).set (k := 3) (by decide) (c 3)).set (k := 4) (by decide) (c 4)).set (k := 5) (by decide) (c 5)).set (k := 6) (by decide) (c 6)).set (k := 7) (by decide) (c 7)
  exact h8.box
theorem vrow_put {w : World} {B g n c : Nat} {f : Nat → Nat → Nat} (h : w.ownsRow B 30 8 (.slice (some ⟨g, 0, none⟩) n c) n (vrows f n)) {k : Nat} (hk : k < n) (a : Nat → Nat) :
    (putCells w g (k * 8) (vcells a).toList).ownsRow B 30 8 (.slice (some ⟨g, 0, none⟩) n c) n (vrows (fun i => if i = k then a else f i) n) ∧ Kp (some g) w (putCells w g (k * 8) (vcells a).toList) := by
  obtain ⟨h1, h2⟩ := own_putCells (vcells a).toList (k * 8) w _ h
  rw [vrows_set f hk a] at h1
  exact ⟨h1, h2⟩
theorem vrows_congr {f g : Nat → Nat → Nat} {n : Nat} (h : ∀ k, k < n → f k = g k) : vrows f n = vrows g n := by
  refine List.ext_getElem? fun j => ?_
  rcases Nat.lt_or_ge j (n * 8) with hj | hj
  · obtain ⟨q, r, rfl, hr⟩ : ∃ q r, j = q * 8 + r ∧ r < 8 := ⟨j / 8, j % 8, by omega, Nat.mod_lt _ (by decide)⟩
    rw [vrows_at f (by omega) hr, vrows_at g (by omega) hr, h q (by omega)]
  · rw [List.getElem?_eq_none (by rw [vrows_len]; exact hj), List.getElem?_eq_none (by rw [vrows_len]; exact hj)]
theorem vrow_cells {w : World} {B g n c : Nat} {f : Nat → Nat → Nat} (h : w.ownsRow B 30 8 (.slice (some ⟨g, 0, none⟩) n c) n (vrows f n)) {k r : Nat} (hk : k < n) (hr : r < 8) : w.cell? ⟨g, k * 8 + r, none⟩ = some (.int .u64 (f k r : Int)) := own_cell h (vrows_at f hk hr)

end Go.Proofs.Ytjpiemgpbakfaaa
/- Walks: the program's Close. -/
namespace Go.Proofs.Ytjpiemgpbakfaaa
open Go.RowKit Go.Joins

def sumTo (v : Nat → Nat) : Nat → Nat
  | 0 => 0
  | k + 1 => sumTo v k + v k
def sumV (v : Nat → Nat) : Nat := sumTo v 8
theorem sumTo_past {v : Nat → Nat} {k x : Nat} : ∀ {n : Nat}, n ≤ k → sumTo (upd v k x) n = sumTo v n
  | 0, _ => rfl
  | n + 1, h => by
    show sumTo (upd v k x) n + upd v k x n = sumTo v n + v n
    rw [sumTo_past (n := n) (by omega)]
    unfold upd
    rw [if_neg (by omega)]
theorem sumTo_upd {v : Nat → Nat} {k x : Nat} : ∀ {n : Nat}, k < n → sumTo (upd v k x) n + v k = sumTo v n + x
  | 0, h => by omega
  | n + 1, h => by
    show sumTo (upd v k x) n + upd v k x n + v k = sumTo v n + v n + x
    by_cases e : k = n
    · subst e
      rw [sumTo_past (Nat.le_refl _)]
      unfold upd
      rw [if_pos rfl]
      omega
    · have ih := sumTo_upd (v := v) (k := k) (x := x) (n := n) (by omega)
      have : upd v k x n = v n := if_neg (fun q => e q.symm)
      rw [this]
      omega
/-- The cut's last transaction of member j, and all ahead of it, depend on nothing beyond the cut. -/
def fine (l : LG) (v : Nat → Nat) (j : Nat) : Prop := v j = 0 ∨ leqB (needV (l j) (v j)) v = true
theorem close_done {l : LG} {v : Nat → Nat} (h : ∀ j, j < 8 → fine l v j) (hs : leqB v (sizeV l) = true) : closedP l v := by
  refine ⟨hs, fun i k t hi hk ht => ?_⟩
  rcases h i hi with h0 | h0
  · omega
  · exact (needV_le (lq hs hi)).1 h0 k t hk ht
theorem close_step {l : LG} {v0 v : Nat → Nat} {k : Nat} (hs : leqB v (sizeV l) = true) (hk : k < 8) (h : ∀ u, closedP l u → leqB u v0 = true → leqB u v = true) (hn : leqB (needV (l k) (v k)) v = false) : ∀ u, closedP l u → leqB u v0 = true → leqB u (upd v k (v k - 1)) = true := by
  intro u hu h0
  have h1 := h u hu h0
  refine lq_of fun j hj => ?_
  unfold upd
  by_cases e : j = k
  · subst e
    rw [if_pos rfl]
    have h2 := lq h1 hj
    rcases Nat.lt_or_ge (u j) (v j) with q | q
    · omega
    · exfalso
      have e2 : u j = v j := by omega
      have : leqB (needV (l j) (v j)) v = true := (needV_le (lq hs hj)).2 fun d t hd ht => lq_trans (hu.2 j d t hj (by omega) ht) h1
      rw [hn] at this
      cases this
  · rw [if_neg e]
    exact lq h1 hj
theorem boxesCl (u : Nat → S3) (v : Nat → Nat) (w : World) : ∃ W, W = ((w.alloc (.cells (lcells u) 24)).alloc (.cells (vcells v) 30)).alloc (.cells V0 30) ∧ Gr w W ∧ W.heap.size = w.heap.size + 3 ∧
    LBox W w.heap.size u ∧ VBox W (w.heap.size + 1) v ∧ VBox W (w.heap.size + 1 + 1) (fun _ => 0) := by
  obtain ⟨W, hW, hg, hs, hL, hV⟩ := boxesLV u v w
  rw [← hW]
  have h1 := heap_alloc W V0 30
  rw [hs] at h1
  exact ⟨_, rfl, hg.alloc _, by simp [hs], hL.gr ((Gr.refl _).alloc _), hV.gr ((Gr.refl _).alloc _), ⟨h1⟩⟩
/-- The cut is within the first one, and no closed cut within that is above it. -/
structure ClI (l : LG) (v0 v : Nat → Nat) : Prop where
  le : leqB v v0 = true
  up : ∀ u, closedP l u → leqB u v0 = true → leqB u v = true
/-- Eight cells of a vector at this place. -/
def VCo (w : World) (b o : Nat) (a : Nat → Nat) : Prop := w.cell? ⟨b, o, none⟩ = some (.int .u64 (a 0 : Int)) ∧ w.cell? ⟨b, o + 1, none⟩ = some (.int .u64 (a 1 : Int)) ∧ w.cell? ⟨b, o + 2, none⟩ = some (.int .u64 (a 2 : Int)) ∧ w.cell? ⟨b, o + 3, none⟩ = some (.int .u64 (a 3 : Int)) ∧ w.cell? ⟨b, o + 4, none⟩ = some (.int .u64 (a 4 : Int)) ∧ w.cell? ⟨b, o + 5, none⟩ = some (.int .u64 (a 5 : Int)) ∧ w.cell? ⟨b, o + 6, none⟩ = some (.int .u64 (a 6 : Int)) ∧ w.cell? ⟨b, o + 7, none⟩ = some (.int .u64 (a 7 : Int))
theorem VCo.gr {w w' : World} {b o : Nat} {a : Nat → Nat} (h : VCo w b o a) (g : Gr w w') : VCo w' b o a := by
  obtain ⟨h0, h1, h2, h3, h4, h5, h6, h7⟩ := h
  exact ⟨g.cell h0, g.cell h1, g.cell h2, g.cell h3, g.cell h4, g.cell h5, g.cell h6, g.cell h7⟩
theorem vco_row {w : World} {B g n c : Nat} {f : Nat → Nat → Nat} (h : w.ownsRow B 30 8 (.slice (some ⟨g, 0, none⟩) n c) n (vrows f n)) {k : Nat} (hk : k < n) : VCo w g (k * 8) (f k) :=
  ⟨vrow_cells h hk (r := 0) (by decide), vrow_cells h hk (r := 1) (by decide), vrow_cells h hk (r := 2) (by decide), vrow_cells h hk (r := 3) (by decide), vrow_cells h hk (r := 4) (by decide), vrow_cells h hk (r := 5) (by decide), vrow_cells h hk (r := 6) (by decide), vrow_cells h hk (r := 7) (by decide)⟩
theorem mt_le (v : Nat → Nat) (l : LG) : leqB (mt v (sizeV l)) (sizeV l) = true := lq_of fun _ _ => Nat.min_le_right _ _

end Go.Proofs.Ytjpiemgpbakfaaa
/- Walks: the laws' own awake. -/
namespace Go.Proofs.Ytjpiemgpbakfaaa
open Go.RowKit Go.Joins

def op9 : TO := ⟨1, ⟨#[97]⟩, ⟨#[]⟩, 5⟩
def t91 : TX := ⟨0, 1, 1, fun _ => 0, [op9]⟩
def e91 : Nat → Nat | 0 => 1 | _ => 0
def t92 : TX := ⟨1, 1, 2, e91, [op9]⟩
def l91 : LG := addL nilL 0 t91
def l92 : LG := addL l91 1 t92
def c91 : Nat → Nat | 1 => 1 | _ => 0
def c92 : Nat → Nat | 0 => 1 | 1 => 1 | _ => 0
theorem add91 : addR nilL t91 = (0, l91) := by kernel_rfl
theorem add92 : addR l91 t92 = (0, l92) := by kernel_rfl
theorem clo91 : closedB l92 c91 = false := by kernel_rfl
theorem clo92 : closedB l92 c92 = true := by kernel_rfl
theorem fit91 : op9.key.size ≤ 281474976710656 ∧ op9.elem.size ≤ 281474976710656 := by decide
theorem fitT {t : TX} (h : t.ops = [op9]) : t.ops.length * 48 ≤ 140737488355328 ∧ ∀ o ∈ t.ops, o.key.size ≤ 281474976710656 ∧ o.elem.size ≤ 281474976710656 := by
  rw [h]
  refine ⟨by decide, fun o ho => ?_⟩
  simp only [List.mem_singleton] at ho
  rw [ho]
  exact fit91
theorem fitC_nil : FitC nilL := ⟨fun i _ => Nat.zero_le _, fun i t _ ht => by cases ht⟩
theorem fitC_91 : FitC l91 := fitC_add (t := t91) fitC_nil (by decide) (fitT rfl)
theorem putL8 {w : World} {b : Nat} {u : Nat → S3} (h : LBox w b u) (c : Nat → S3) : LBox (putCells w b 0 [.slice (c 0).a (c 0).n (c 0).c, .slice (c 1).a (c 1).n (c 1).c, .slice (c 2).a (c 2).n (c 2).c, .slice (c 3).a (c 3).n (c 3).c, .slice (c 4).a (c 4).n (c 4).c, .slice (c 5).a (c 5).n (c 5).c, .slice (c 6).a (c 6).n (c 6).c, .slice (c 7).a (c 7).n (c 7).c]) b c := by
  have h8 := (((((((h.set (k := 0) (by decide) (c 0).a (c 0).n (c 0).c).set (k := 1) (by decide) (c 1).a (c 1).n (c 1).c).set (k := 2) (by decide) (c 2).a (c 2).n (c 2).c).set (k := 3) (by decide) (c 3).a (c 3).n (c 3).c).set (k := 4) (by decide) (c 4).a (c 4).n (c 4).c).set (k := 5) (by decide) (c 5).a (c 5).n (c 5).c).set (k := 6) (by decide) (c 6).a (c 6).n (c 6).c).set (k := 7) (by decide) (c 7).a (c 7).n (c 7).c
  exact ⟨h8.box⟩
theorem optov (w : World) : ∃ W, W = w.alloc (.cells #[.int .i64 1, .string ⟨#[97]⟩, .string ⟨#[]⟩, .int .i64 5] 50) ∧ Gr w W ∧ TOV W (.slice (some ⟨w.heap.size, 0, none⟩) 1 1) [op9] := by
  refine ⟨_, rfl, (Gr.refl w).alloc _, some ⟨w.heap.size, 0, none⟩, 1, rfl, Nat.le_refl _, ⟨by decide, fun e => by cases e⟩, fun j hj => ?_⟩
  have : j = 0 := by simp at hj; omega
  subst this
  refine ⟨w.heap.size, 0, rfl, ?_, ?_, ?_, ?_⟩ <;> (rw [World.cell?_alloc_at _ _ _ _ rfl]; rfl)

end Go.Proofs.Ytjpiemgpbakfaaa
