/- Texts CutV, CutZA, CutZC, joined. -/
import Derived.Test.YtjpiemgpbakfaaaG15
import Derived.Test.YtjpiemgpbakfaaaG20
import Derived.Test.YtjpiemgpbakfaaaG23
import Derived.Test.YtjpiemgpbakfaaaG16
import Derived.Test.YtjpiemgpbakfaaaG21
/- Join: its answer (joinR); walks: the document's Join. -/
namespace Go.Proofs.Ytjpiemgpbakfaaa
open Go.RowKit Go.Joins
set_option linter.unusedSimpArgs false
set_option linter.unusedVariables false

theorem elemTxn : Try.prog.underlying 22 = some (.slice (Try.prog.elem 22)) := by kernel_rfl
theorem sizeTxn : ∀ W : World, (sizeOf (Try.prog.elem 22)).run Try.prog W = .ok 12 W := fun W => by kernel_rfl
theorem XV.take {w : World} {A : Option Addr} {n c k : Nat} {L : List TX} (h : XV w (.slice A n c) L) (hk : k ≤ n) : XV w (.slice A k c) (L.take k) := by
  obtain ⟨A', c', hv, h1, h2, h3⟩ := h
  injection hv with e1 e2 e3
  subst e1 e2 e3
  have hl : (L.take k).length = k := by rw [List.length_take]; omega
  refine ⟨A, c, by rw [hl], by omega, h2, fun j hj => ?_⟩
  obtain ⟨b, off, ha, hc⟩ := h3 j (by omega)
  exact ⟨b, off, ha, by rw [List.getElem_take]; exact hc⟩
/-- Are the logs the same as far as both reach? -/
def okJ (a b : LG) : Bool := (List.range 8).all fun i => sameL ((a i).take (b i).length) ((b i).take (a i).length)
theorem okJ_iff {a b : LG} : okJ a b = true ↔ ∀ i, i < 8 → sameL ((a i).take (b i).length) ((b i).take (a i).length) = true := by simp [okJ]
theorem okJ_no {a b : LG} {i : Nat} (hi : i < 8) (h : sameL ((a i).take (b i).length) ((b i).take (a i).length) = false) : okJ a b = false := by
  rw [Bool.eq_false_iff]
  intro e
  rw [okJ_iff.1 e i hi] at h
  cases h
/-- What Join answers: its error, its logs. -/
def joinR (a b : LG) : Nat × LG :=
  if checkE a = 0 then (if checkE b = 0 then (if okJ a b = true then (0, jnL a b) else (91, nilL)) else (checkE b, nilL)) else (checkE a, nilL)
theorem fitC_jn {a b : LG} (ha : FitC a) (hb : FitC b) : FitC (jnL a b) := by
  refine ⟨fun i hi => ?_, fun i t hi ht => ?_⟩
  · unfold jnL
    split
    · exact hb.len i hi
    · exact ha.len i hi
  · unfold jnL at ht
    split at ht
    · exact hb.tx i t hi ht
    · exact ha.tx i t hi ht
theorem boxesJn (u v : Nat → S3) (w : World) : ∃ W, W = ((w.alloc (.cells (lcells u) 24)).alloc (.cells (lcells v) 24)).alloc (.cells (lcells fun _ => ⟨none, 0, 0⟩) 24) ∧ Gr w W ∧ W.heap.size = w.heap.size + 3 ∧
    LBox W w.heap.size u ∧ LBox W (w.heap.size + 1) v ∧ LBox W (w.heap.size + 1 + 1) Z3 := by
  obtain ⟨W, hW, hg, hs, hA, hB⟩ := boxesLL u v w
  rw [← hW]
  have h1 := heap_alloc W (lcells fun _ => ⟨none, 0, 0⟩) 24
  rw [hs] at h1
  exact ⟨_, rfl, hg.alloc _, by simp [hs], hA.gr ((Gr.refl _).alloc _), hB.gr ((Gr.refl _).alloc _), ⟨h1⟩⟩
/-- What Join's rounds leave: of the first k logs the longer one stands in the answer. -/
structure JrR (w : World) (u v : Nat → S3) (a b : LG) (P : Nat) (k : Nat) (us : Nat → S3) (wr : World) : Prop where
  xa : LBox wr w.heap.size u
  xb : LBox wr (w.heap.size + 1) v
  xz : LBox wr (w.heap.size + 1 + 1) Z3
  xo : LBox wr P us
  lv : ∀ j, j < k → us j = if (a j).length < (b j).length then v j else u j
  ok : ∀ j, j < k → sameL ((a j).take (b j).length) ((b j).take (a j).length) = true
  gr : Gr w wr
theorem JrR.next {w wr w' : World} {u v us : Nat → S3} {a b : LG} {P k : Nat} (h : JrR w u v a b P k us wr) (g : Gr wr w') : JrR w u v a b P k us w' :=
  ⟨h.xa.gr g, h.xb.gr g, h.xz.gr g, h.xo.gr g, h.lv, h.ok, h.gr.trans g⟩
theorem JrR.put {w wr : World} {u v us : Nat → S3} {a b : LG} {P k : Nat} (h : JrR w u v a b P k us wr) (hP : w.heap.size + 3 ≤ P) {j : Nat} (hj : k ≤ j) (h8 : j < 8) (A : Option Addr) (n c : Nat) : JrR w u v a b P k (updS us j ⟨A, n, c⟩) (wr.setCell ⟨P, j, none⟩ (.slice A n c)) :=
  ⟨h.xa.far (by simp only []; omega) _, h.xb.far (by simp only []; omega) _, h.xz.far (by simp only []; omega) _, h.xo.set h8 _ _ _, fun i hi => by
    show (if i = j then _ else us i) = _
    rw [if_neg (by omega)]; exact h.lv i hi, h.ok, h.gr.setCell (by show w.heap.size ≤ P; omega) _⟩
theorem JrR.more {w wr : World} {u v us : Nat → S3} {a b : LG} {P k : Nat} (h : JrR w u v a b P k us wr) (e : us k = if (a k).length < (b k).length then v k else u k) (hs : sameL ((a k).take (b k).length) ((b k).take (a k).length) = true) : JrR w u v a b P (k + 1) us wr :=
  ⟨h.xa, h.xb, h.xz, h.xo, fun j hj => by
    by_cases q : j = k
    · rw [q]; exact e
    · exact h.lv j (by omega), fun j hj => by
    by_cases q : j = k
    · rw [q]; exact hs
    · exact h.ok j (by omega), h.gr⟩
theorem JrR.end {w wr : World} {u v us : Nat → S3} {a b : LG} {P : Nat} (h : JrR w u v a b P 8 us wr) (ha : LV w u a) (hb : LV w v b) : LV wr us (jnL a b) := fun i hi => by
  rw [h.lv i hi]
  unfold jnL
  by_cases e : (a i).length < (b i).length
  · rw [if_pos e, if_pos e]; exact (hb i hi).gr h.gr
  · rw [if_neg e, if_neg e]; exact (ha i hi).gr h.gr

end Go.Proofs.Ytjpiemgpbakfaaa
/- Owned logs outlive what is stored into boxes; the beginnings of logs, walked; what a region of such calls leaves. -/
namespace Go.Proofs.Ytjpiemgpbakfaaa
open Go.RowKit Go.Joins
set_option linter.unusedSimpArgs false
set_option linter.unusedVariables false

/-- The types of boxes: all but transactions and operations. -/
def btL (t : TypeId) : Bool := !(t == 38 || t == 50)
theorem XN.keeps {w w' : World} {B : Nat} {v : Value} {L : List TX} (h : XN w B v L) (k : Keeps btL w w') : XN w' B v L := by
  obtain ⟨R, h1, h2, h3⟩ := h
  exact ⟨R, h1, own_keeps h2 (by decide) k, fun r hr => own_keeps (h3 r hr) (by decide) k⟩
theorem LN.keeps {w w' : World} {B : Nat} {u : Nat → S3} {l : LG} (h : LN w B u l) (k : Keeps btL w w') : LN w' B u l := fun i hi => (h i hi).keeps k
theorem LN.le {w : World} {B B' : Nat} {u : Nat → S3} {l : LG} (h : LN w B u l) (hb : B' ≤ B) : LN w B' u l := fun i hi => (h i hi).le hb
theorem trs_take (R : List TR) (k : Nat) : (trs R).take (k * 12) = trs (R.take k) := rows_take trcells 12 (fun _ => rfl) R k
theorem XN.take {w : World} {B n c k : Nat} {A : Option Addr} {L : List TX} (h : XN w B (.slice A n c) L) (hk : k ≤ n) : XN w B (.slice A k c) (L.take k) := by
  obtain ⟨R, h1, h2, h3⟩ := h
  have h4 : w.ownsRow B 38 12 (.slice A n c) R.length (trs R) := h2
  obtain ⟨A', c', hv, -, -⟩ := own_form h4
  injection hv with e1 e2 e3
  subst e1 e2 e3
  rcases h4.2 with ⟨hh, h0⟩ | ⟨g, cap, cur, hh, hb, hg, hr⟩
  · injection hh with q1 q2 q3
    subst q1 q3
    obtain rfl : k = 0 := by omega
    exact ⟨[], by simp [texts], World.ownsRow_nil w B _ _, fun r hr => by cases hr⟩
  · injection hh with q1 q2 q3
    subst q1
    have h5 := own_prefix h4 hk
    rw [trs_take] at h5
    refine ⟨R.take k, ?_, ?_, fun r hr => h3 r (List.mem_of_mem_take hr)⟩
    · rw [← h1]; unfold texts; rw [List.map_take]
    · show w.ownsRow B _ 12 _ (R.take k).length _
      rw [List.length_take, Nat.min_eq_left hk]
      exact h5
theorem setCell_keeps {bt : TypeId → Bool} {w : World} {P : Nat} {z : Array Value} {t : TypeId} {fr : Nat × Nat} (h : w.heap[P]? = some (.cells z t fr)) (ht : bt t = true) (i : Nat) (v : Value) : Keeps bt w (w.setCell ⟨P, i, none⟩ v) := putCells_keeps h ht [v] i
/-- Of the first k logs the slices are cut. -/
def cutS (u : Nat → S3) (v : Nat → Nat) (k : Nat) : Nat → S3 := fun j => if j < k then ⟨(u j).a, v j, (u j).c⟩ else u j
theorem cutS_next (u : Nat → S3) (v : Nat → Nat) (k : Nat) : updS (cutS u v k) k ⟨(u k).a, v k, (u k).c⟩ = cutS u v (k + 1) := by
  funext j
  unfold updS cutS
  by_cases e : j = k
  · subst e; rw [if_pos rfl, if_pos (by omega)]
  · rw [if_neg e]
    by_cases q : j < k
    · rw [if_pos q, if_pos (by omega)]
    · rw [if_neg q, if_neg (by omega)]
theorem cutS_zero (u : Nat → S3) (v : Nat → Nat) : cutS u v 0 = u := by
  funext j
  unfold cutS
  rw [if_neg (by omega)]
theorem cutS_at (u : Nat → S3) (v : Nat → Nat) (k : Nat) : cutS u v k k = u k := if_neg (by omega)
/-- What the rounds of first leave. -/
structure FstR (w W : World) (v : Nat → Nat) (P B : Nat) (uk : Nat → S3) (l : LG) (k : Nat) (wr : World) : Prop where
  xo : LBox wr P (cutS uk v k)
  xz : LBox wr (w.heap.size + 1 + 1) Z3
  xv : VBox wr (w.heap.size + 1) v
  ln : LN wr B uk l
  gr : Gr W wr
theorem FstR.next {w W : World} {v : Nat → Nat} {P B : Nat} {uk : Nat → S3} {l : LG} {k : Nat} {wr w' : World} (h : FstR w W v P B uk l k wr) (g : Gr wr w') : FstR w W v P B uk l k w' :=
  ⟨h.xo.gr g, h.xz.gr g, h.xv.gr g, h.ln.keeps (Keeps.of_gr g), h.gr.trans g⟩
theorem FstR.more {w W : World} {v : Nat → Nat} {P B : Nat} {uk : Nat → S3} {l : LG} {k : Nat} {wr : World} (h : FstR w W v P B uk l k wr) (hP : w.heap.size + 3 ≤ P) (hW : W.heap.size = w.heap.size + 3) (hk : k < 8) : FstR w W v P B uk l (k + 1) (wr.setCell ⟨P, k, none⟩ (.slice (uk k).a (v k) (uk k).c)) :=
  ⟨by rw [← cutS_next]; exact h.xo.set hk _ _ _, h.xz.far (by simp only []; omega) _, h.xv.far (by simp only []; omega) _, h.ln.keeps (setCell_keeps h.xo.box (by decide) _ _), h.gr.setCell (by rw [hW]; simp only []; omega) _⟩
theorem boxesFi (u : Nat → S3) (v : Nat → Nat) (w : World) : ∃ W, W = ((w.alloc (.cells (lcells u) 24)).alloc (.cells (vcells v) 30)).alloc (.cells (lcells fun _ => ⟨none, 0, 0⟩) 24) ∧ Gr w W ∧ W.heap.size = w.heap.size + 3 ∧
    LBox W w.heap.size u ∧ VBox W (w.heap.size + 1) v ∧ LBox W (w.heap.size + 1 + 1) Z3 := by
  obtain ⟨W, hW, hg, hs, hA, hB⟩ := boxesLV u v w
  rw [← hW]
  have h1 := heap_alloc W (lcells fun _ => ⟨none, 0, 0⟩) 24
  rw [hs] at h1
  exact ⟨_, rfl, hg.alloc _, by simp [hs], hA.gr ((Gr.refl _).alloc _), hB.gr ((Gr.refl _).alloc _), ⟨h1⟩⟩

/-- The values of a region of such calls: plain ones, owned logs, owned logs beside an error's number. -/
structure QL (F : Nat → Option Value) (G : Nat → Option LG) (J : Nat → Option (LG × Nat)) (B : Nat) (k : Nat) (w : World) (y : Value) : Prop where
  f : ∀ v, F k = some v → y = v
  g : ∀ L, G k = some L → ∃ u, y = .agg (lcells u) ∧ LN w B u L
  j : ∀ L, J k = some L → ∃ u, y = .tuple #[.agg (lcells u), .int .i64 (L.2 : Int)] ∧ LN w B u L.1
theorem QL.st {F : Nat → Option Value} {G : Nat → Option LG} {J : Nat → Option (LG × Nat)} {B : Nat} : ∀ k y w1 w2, QL F G J B k w1 y → Keeps btL w1 w2 → QL F G J B k w2 y := fun k y w1 w2 h kp =>
  ⟨h.f, fun L hL => by obtain ⟨u, q1, q2⟩ := h.g L hL; exact ⟨u, q1, q2.keeps kp⟩, fun L hL => by obtain ⟨u, q1, q2⟩ := h.j L hL; exact ⟨u, q1, q2.keeps kp⟩⟩
theorem qlF {F : Nat → Option Value} {G : Nat → Option LG} {J : Nat → Option (LG × Nat)} {B k : Nat} {w : World} {v : Value} (h1 : F k = some v) (h2 : G k = none) (h3 : J k = none) : QL F G J B k w v :=
  ⟨fun x hx => (by rw [h1] at hx; exact Option.some.inj hx), fun L hL => (by rw [h2] at hL; cases hL), fun L hL => (by rw [h3] at hL; cases hL)⟩
theorem qlG {F : Nat → Option Value} {G : Nat → Option LG} {J : Nat → Option (LG × Nat)} {B k : Nat} {w : World} {u : Nat → S3} {L : LG} (h1 : F k = none) (h2 : G k = some L) (h3 : J k = none) (h : LN w B u L) : QL F G J B k w (.agg (lcells u)) :=
  ⟨fun x hx => (by rw [h1] at hx; cases hx), fun M hM => (by rw [h2] at hM; rw [← Option.some.inj hM]; exact ⟨u, rfl, h⟩), fun M hM => (by rw [h3] at hM; cases hM)⟩
theorem qlJ {F : Nat → Option Value} {G : Nat → Option LG} {J : Nat → Option (LG × Nat)} {B k : Nat} {w : World} {u : Nat → S3} {L : LG} {e : Nat} (h1 : F k = none) (h2 : G k = none) (h3 : J k = some (L, e)) (h : LN w B u L) : QL F G J B k w (.tuple #[.agg (lcells u), .int .i64 (e : Int)]) :=
  ⟨fun x hx => (by rw [h1] at hx; cases hx), fun M hM => (by rw [h2] at hM; cases hM), fun M hM => (by rw [h3] at hM; rw [← Option.some.inj hM]; exact ⟨u, rfl, h⟩)⟩
theorem qlN {F : Nat → Option Value} {G : Nat → Option LG} {J : Nat → Option (LG × Nat)} {B k : Nat} {w : World} {y : Value} (h1 : F k = none) (h2 : G k = none) (h3 : J k = none) : QL F G J B k w y :=
  ⟨fun x hx => (by rw [h1] at hx; cases hx), fun M hM => (by rw [h2] at hM; cases hM), fun M hM => (by rw [h3] at hM; cases hM)⟩
end Go.Proofs.Ytjpiemgpbakfaaa
/- Walks: the document's Order. -/
namespace Go.Proofs.Ytjpiemgpbakfaaa
open Go.RowKit Go.Joins
set_option linter.unusedSimpArgs false
set_option linter.unusedVariables false

/-- By stamps, then by origins, then by numbers. -/
def aheadB (a b : TX) : Bool := if a.stamp = b.stamp then (if a.origin = b.origin then decide (a.seq < b.seq) else decide (a.origin < b.origin)) else decide (a.stamp < b.stamp)
/-- The place from k down that t goes to. -/
def plc (t : TX) (L : List TX) : Nat → Nat
  | 0 => 0
  | k + 1 => match L[k]? with | some x => if aheadB t x = true then plc t L k else k + 1 | none => k + 1
theorem plc_yes {t x : TX} {L : List TX} {k : Nat} (h : L[k]? = some x) (ha : aheadB t x = true) : plc t L (k + 1) = plc t L k := by
  show (match L[k]? with | some x => _ | none => _) = _
  rw [h]; simp only [ha, if_true]
theorem plc_no {t x : TX} {L : List TX} {k : Nat} (h : L[k]? = some x) (ha : aheadB t x = false) : plc t L (k + 1) = k + 1 := by
  show (match L[k]? with | some x => _ | none => _) = _
  rw [h]; simp [ha]
theorem plc_le (t : TX) (L : List TX) : ∀ k, plc t L k ≤ k
  | 0 => Nat.le_refl _
  | k + 1 => by
    have := plc_le t L k
    unfold plc
    split
    · split <;> omega
    · omega
def insT (t : TX) (L : List TX) : List TX := L.take (plc t L L.length) ++ t :: L.drop (plc t L L.length)
theorem insT_len (t : TX) (L : List TX) : (insT t L).length = L.length + 1 := by
  have := plc_le t L L.length
  unfold insT
  rw [List.length_append, List.length_cons, List.length_take, List.length_drop]
  omega
def ordIn (l : LG) (i : Nat) (acc : List TX) : Nat → List TX
  | 0 => acc
  | d + 1 => match (l i)[d]? with | some t => insT t (ordIn l i acc d) | none => ordIn l i acc d
def ordTo (l : LG) (v : Nat → Nat) : Nat → List TX
  | 0 => []
  | i + 1 => ordIn l i (ordTo l v i) (v i)
/-- What the document's Order answers. -/
def ordR (l : LG) (v : Nat → Nat) : List TX := ordTo l (mt v (sizeV l)) 8
theorem ordIn_at {l : LG} {i d : Nat} {acc : List TX} {t : TX} (h : (l i)[d]? = some t) : ordIn l i acc (d + 1) = insT t (ordIn l i acc d) := by
  show (match (l i)[d]? with | some t => _ | none => _) = _
  rw [h]
theorem ordIn_len (l : LG) (i : Nat) (acc : List TX) : ∀ d, d ≤ (l i).length → (ordIn l i acc d).length = acc.length + d
  | 0, _ => rfl
  | d + 1, h => by
    rw [ordIn_at (List.getElem?_eq_getElem (by omega)), insT_len, ordIn_len l i acc d (by omega)]
    omega
theorem ordTo_len (l : LG) (v : Nat → Nat) : ∀ i, (∀ j, j < i → v j ≤ (l j).length) → (ordTo l v i).length = sumTo v i
  | 0, _ => rfl
  | i + 1, h => by
    show (ordIn l i (ordTo l v i) (v i)).length = sumTo v i + v i
    rw [ordIn_len l i _ _ (h i (by omega)), ordTo_len l v i fun j hj => h j (by omega)]
theorem ordR_len (l : LG) (v : Nat → Nat) : (ordR l v).length = sumV (mt v (sizeV l)) := ordTo_len l _ 8 fun j _ => Nat.min_le_right _ _
/-- append of one transaction to a row of the call's own, in a region's forced order. -/
theorem wpList_push_tx {W : World} {ops : Array Oper} {rest : List Oper} {o : Oper} {a : Act} {Q : Exit → Act → World → Prop} (hw : Region.wanted o (yielded ops a.tmps) = true) (s x : Operand)
    (ho : o.op = .call { callee := .builtin .append, args := #[s, x], argTypes := #[22, 22] })
    (B : Nat) (v : Value) (n bn : Nat) (R : List TR) (t : TR) (hs : a.eval s = v) (hx : a.eval x = .slice (some ⟨bn, 0, none⟩) 1 1) (hown : W.ownsRow B 38 12 v n (trs R)) (ht : XFix W bn 0 t.1 t.2.v)
    (hlen : (n + 1) * 112 ≤ 140737488355328) (hB : B ≤ W.heap.size)
    (h : ∀ A' c' w', w'.ownsRow B 38 12 (.slice A' (n + 1) c') (n + 1) (trs (R ++ [t])) → W.grownBy w' v.ownBlock → ((Value.slice A' (n + 1) c').ownBlock = v.ownBlock ∨ (Value.slice A' (n + 1) c').ownBlock = some W.heap.size) → wpList Try.prog ops Q rest (a.put o.dst (.slice A' (n + 1) c')) w') :
    wpList Try.prog ops Q (o :: rest) a W := by
  obtain ⟨i0, hi, hz0, hz1, hz2⟩ := info_parts infoTxn
  have h1 : ∀ u ∈ trcells t, u.oneCell' = true := fun u hu => trs_one [t] u (by unfold trs; simpa using hu)
  refine Go.BigFrame.wpList_want hw (fun K hK => ?_)
  refine wp_append_sl W s x 22 ho B 38 i0 _ 12 112 Try.underlying22 hi hz0 hz1 hz2 rfl (by decide) v n (trs R) hs hown (.slice (some ⟨bn, 0, none⟩) 1 1) 1 (trcells t) hx
    ⟨_, 1, rfl, Nat.le_refl _, ⟨by unfold maxLen; omega, fun e => by cases e⟩, by rw [trcells_len], fun j u hj => ⟨bn, 0, rfl, trcells_at ht hj⟩⟩ h1 (by unfold maxLen; omega) hlen hB (n + 1) rfl ?_
  intro A' c' w' hown' hgr hbk
  rw [← trs_snoc] at hown'
  exact hK _ _ (h A' c' w' hown' hgr hbk)
set_option maxRecDepth 100000 in
set_option maxHeartbeats 2000000 in
theorem ahead_any (a b : TX) (Aa Ab : Option Addr) (na ca nb cb : Nat) (w : World) :
    Calls Try.prog 17 #[.agg (tcs a (.slice Aa na ca)), .agg (tcs b (.slice Ab nb cb))] w fun e w' => e = .returned (.bool (aheadB a b)) ∧ Gr w w' := by
  obtain ⟨W1, hW1, hg1, hx1⟩ := xbox w a (.slice Aa na ca)
  obtain ⟨W2, hW2, hg2, hx2⟩ := xbox W1 b (.slice Ab nb cb)
  have hs : W1.heap.size = w.heap.size + 1 := by rw [hW1]; simp
  rw [hs] at hx2
  obtain ⟨x0, x1, x2, -⟩ := hx1.gr hg2
  obtain ⟨y0, y1, y2, -⟩ := hx2
  have HG := Lib.hid (hg1.trans hg2)
  obtain ⟨r, hr⟩ : ∃ r, r = aheadB a b := ⟨_, rfl⟩
  rw [← hr]
  have HR := Lib.hid hr
  rw [hW1] at hW2
  clear hW1 hg1 hg2 hx1 hs hr
  by_cases h1 : a.stamp = b.stamp
  · rw [← h1] at y2
    by_cases h2 : a.origin = b.origin
    · rw [← h2] at y0
      have HD : Hid (r = decide (a.seq < b.seq)) := Lib.hid (by rw [HR.out]; unfold aheadB; rw [if_pos h1, if_pos h2])
      clear h1 h2
      by_cases h3 : a.seq < b.seq
      · have h3' : (a.seq : Int) < (b.seq : Int) := by omega
        have HE : Hid (r = true) := Lib.hid (by rw [HD.out]; exact decide_eq_true h3)
        go_enter Try.func17, Try.ntmps17
        go_upto_region 1 with (fail)
        rw [← hW2]
        clear hW2
        go_wp2_with fail
        go_ret
        exact ⟨by rw [HE.out]; rfl, HG.out⟩
      · have h3' : ¬ (a.seq : Int) < (b.seq : Int) := by omega
        have HE : Hid (r = false) := Lib.hid (by rw [HD.out]; exact decide_eq_false h3)
        go_enter Try.func17, Try.ntmps17
        go_upto_region 1 with (fail)
        rw [← hW2]
        clear hW2
        go_wp2_with fail
        go_ret
        exact ⟨by rw [HE.out]; rfl, HG.out⟩
    · have HD : Hid (r = decide (a.origin < b.origin)) := Lib.hid (by rw [HR.out]; unfold aheadB; rw [if_pos h1, if_neg h2])
      clear h1
      by_cases h3 : a.origin < b.origin
      · have HE : Hid (r = true) := Lib.hid (by rw [HD.out]; exact decide_eq_true h3)
        go_enter Try.func17, Try.ntmps17
        go_upto_region 1 with (fail)
        rw [← hW2]
        clear hW2
        go_wp2_with fail
        go_ret
        exact ⟨by rw [HE.out]; rfl, HG.out⟩
      · have HE : Hid (r = false) := Lib.hid (by rw [HD.out]; exact decide_eq_false h3)
        go_enter Try.func17, Try.ntmps17
        go_upto_region 1 with (fail)
        rw [← hW2]
        clear hW2
        go_wp2_with fail
        go_ret
        exact ⟨by rw [HE.out]; rfl, HG.out⟩
  · have HD : Hid (r = decide (a.stamp < b.stamp)) := Lib.hid (by rw [HR.out]; unfold aheadB; rw [if_neg h1])
    have h1' : ¬ (a.stamp : Int) = (b.stamp : Int) := by omega
    by_cases h3 : a.stamp < b.stamp
    · have h3' : (a.stamp : Int) < (b.stamp : Int) := by omega
      have HE : Hid (r = true) := Lib.hid (by rw [HD.out]; exact decide_eq_true h3)
      go_enter Try.func17, Try.ntmps17
      go_upto_region 1 with (fail)
      rw [← hW2]
      clear hW2
      go_wp2_with fail
      go_ret
      exact ⟨by rw [HE.out]; rfl, HG.out⟩
    · have h3' : ¬ (a.stamp : Int) < (b.stamp : Int) := by omega
      have HE : Hid (r = false) := Lib.hid (by rw [HD.out]; exact decide_eq_false h3)
      go_enter Try.func17, Try.ntmps17
      go_upto_region 1 with (fail)
      rw [← hW2]
      clear hW2
      go_wp2_with fail
      go_ret
      exact ⟨by rw [HE.out]; rfl, HG.out⟩
end Go.Proofs.Ytjpiemgpbakfaaa
