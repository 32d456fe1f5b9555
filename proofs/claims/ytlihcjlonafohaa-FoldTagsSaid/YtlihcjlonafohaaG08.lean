/- Texts CutB, QTail, Cmp, Srt, joined. -/
import Derived.Test.YtlihcjlonafohaaG07
import Derived.Test.YtlihcjlonafohaaG02
import Derived.StillTail
import Derived.Test.YtlihcjlonafohaaG01
import Derived.Shelf.SortM.Plain
import Derived.Shelf.SortM.SortNone
/- Walks: the program's Stamp and behind. -/
namespace Go.Proofs.Ytlihcjlonafohaa
open Go.RowKit Go.Joins

theorem boxesLV (u : Nat → S3) (v : Nat → Nat) (w : World) : ∃ W, W = (w.alloc (.cells (lcells u) 24)).alloc (.cells (vcells v) 27) ∧ Gr w W ∧ W.heap.size = w.heap.size + 2 ∧
    LBox W w.heap.size u ∧ VBox W (w.heap.size + 1) v := by
  refine ⟨_, rfl, ((Gr.refl w).alloc _).alloc _, by simp, ⟨?_⟩, ⟨?_⟩⟩
  all_goals (simp only [World.alloc, Array.getElem?_push, Array.size_push]; simp)
theorem LV.cell {w : World} {u : Nat → S3} {l : LG} (h : LV w u l) {i j : Nat} (hi : i < 8) (hj : j < (l i).length) : ∃ b off, (u i).a = some ⟨b, off, none⟩ ∧ XCell w b (off + j * 12) (l i)[j] := by
  obtain ⟨A, c, hv, h1, h2, h3⟩ := h i hi
  injection hv with e1 e2 e3
  obtain ⟨b, off, ha, hc⟩ := h3 j hj
  exact ⟨b, off, by rw [e1, ha], hc⟩
theorem stampTo_skip {l : LG} {v : Nat → Nat} {k : Nat} (h : v k = 0 ∨ (l k).length < v k) : stampTo l v (k + 1) = stampTo l v k := by
  show max _ _ = _
  have : lastS l v k = 0 := by
    unfold lastS
    rcases h with h | h
    · rw [if_pos h]
    · rw [if_neg (by omega), List.getElem?_eq_none (by omega)]
  rw [this]
  omega
theorem stampTo_take {l : LG} {v : Nat → Nat} {k d : Nat} (hv : v k = d + 1) (h : d < (l k).length) : stampTo l v (k + 1) = max (stampTo l v k) ((l k)[d]).stamp := by
  show max _ _ = _
  rw [lastS_at hv (List.getElem?_eq_getElem h)]

theorem behind_yes {l : LG} {t : TX} (h : leqB t.deps (sizeV l) = false) : behindE l t = 90 := by unfold behindE; rw [h]; rfl
theorem behind_old {l : LG} {t : TX} (h : leqB t.deps (sizeV l) = true) (h2 : t.stamp ≤ stampV l t.deps) : behindE l t = 80 := by unfold behindE; rw [if_pos h, if_pos h2]
theorem behind_ok {l : LG} {t : TX} (h : leqB t.deps (sizeV l) = true) (h2 : ¬ t.stamp ≤ stampV l t.deps) : behindE l t = 0 := by unfold behindE; rw [if_pos h, if_neg h2]
/-- The eight cells of logs lie in this box. -/
def LC (w : World) (b : Nat) (u : Nat → S3) : Prop := w.cell? ⟨b, 0, none⟩ = some (.slice (u 0).a (u 0).n (u 0).c) ∧ w.cell? ⟨b, 1, none⟩ = some (.slice (u 1).a (u 1).n (u 1).c) ∧ w.cell? ⟨b, 2, none⟩ = some (.slice (u 2).a (u 2).n (u 2).c) ∧ w.cell? ⟨b, 3, none⟩ = some (.slice (u 3).a (u 3).n (u 3).c) ∧ w.cell? ⟨b, 4, none⟩ = some (.slice (u 4).a (u 4).n (u 4).c) ∧ w.cell? ⟨b, 5, none⟩ = some (.slice (u 5).a (u 5).n (u 5).c) ∧ w.cell? ⟨b, 6, none⟩ = some (.slice (u 6).a (u 6).n (u 6).c) ∧ w.cell? ⟨b, 7, none⟩ = some (.slice (u 7).a (u 7).n (u 7).c)
theorem LC.gr {w w' : World} {b : Nat} {u : Nat → S3} (h : LC w b u) (g : Gr w w') : LC w' b u := by
  obtain ⟨h0, h1, h2, h3, h4, h5, h6, h7⟩ := h
  exact ⟨g.cell h0, g.cell h1, g.cell h2, g.cell h3, g.cell h4, g.cell h5, g.cell h6, g.cell h7⟩
theorem LBox.lc {w : World} {b : Nat} {u : Nat → S3} (h : LBox w b u) : LC w b u := h.all
/-- The eight cells of a vector lie in this box. -/
def VC (w : World) (b : Nat) (a : Nat → Nat) : Prop := w.cell? ⟨b, 0, none⟩ = some (.int .u64 (a 0 : Int)) ∧ w.cell? ⟨b, 1, none⟩ = some (.int .u64 (a 1 : Int)) ∧ w.cell? ⟨b, 2, none⟩ = some (.int .u64 (a 2 : Int)) ∧ w.cell? ⟨b, 3, none⟩ = some (.int .u64 (a 3 : Int)) ∧ w.cell? ⟨b, 4, none⟩ = some (.int .u64 (a 4 : Int)) ∧ w.cell? ⟨b, 5, none⟩ = some (.int .u64 (a 5 : Int)) ∧ w.cell? ⟨b, 6, none⟩ = some (.int .u64 (a 6 : Int)) ∧ w.cell? ⟨b, 7, none⟩ = some (.int .u64 (a 7 : Int))
theorem VC.gr {w w' : World} {b : Nat} {a : Nat → Nat} (h : VC w b a) (g : Gr w w') : VC w' b a := by
  obtain ⟨h0, h1, h2, h3, h4, h5, h6, h7⟩ := h
  exact ⟨g.cell h0, g.cell h1, g.cell h2, g.cell h3, g.cell h4, g.cell h5, g.cell h6, g.cell h7⟩
theorem VBox.vc {w : World} {b : Nat} {a : Nat → Nat} (h : VBox w b a) : VC w b a := h.all
theorem boxesLT (u : Nat → S3) (t : TX) (v : Value) (w : World) : ∃ W, W = (w.alloc (.cells (lcells u) 24)).alloc (.cells (tcs t v) 44) ∧ Gr w W ∧ W.heap.size = w.heap.size + 2 ∧
    LBox W w.heap.size u ∧ XFix W (w.heap.size + 1) 0 t v := by
  obtain ⟨W, hW, hg, hx⟩ := xbox (w.alloc (.cells (lcells u) 24)) t v
  refine ⟨W, hW, ((Gr.refl w).alloc _).trans hg, by rw [hW]; simp, ?_, ?_⟩
  · exact LBox.gr ⟨heap_alloc _ _ _⟩ hg
  · have e : (w.alloc (.cells (lcells u) 24)).heap.size = w.heap.size + 1 := by simp
    rw [e] at hx
    exact hx
end Go.Proofs.Ytlihcjlonafohaa
/- A region that draws its order: its first operations read cells of a class of worlds, and its calls answer one value and leave the class; the others stand in one order behind all of these. It names no program. -/
namespace Go.Proofs.Ytlihcjlonafohaa

section
variable {P : Program} {ops : Array Oper} {md : Region.Mode} {C : World → Prop}
/-- Whatever may come up is of the head and quiet, f times; then L. -/
def headQ (P : Program) (md : Region.Mode) (ops : Array Oper) (C : World → Prop) (n : Nat) (L : Array Bool → Act → Prop) : Nat → Array Bool → Act → Prop
  | 0, done, a => L done a
  | f + 1, done, a => Region.ready md ops done ≠ [] ∧ ∀ i, i ∈ Region.ready md ops done → i < n ∧ qOp P ops C i (headQ P md ops C n L f (done.setIfInBounds i true)) a

theorem headQ_any {n g : Nat} {L : Array Bool → Act → Prop} {Q : Exit → Act → World → Prop} (hL : ∀ done a w, C w → L done a → wpAny P md ops Q g done a w) (f : Nat) :
    ∀ (done : Array Bool) (a : Act) (w : World), C w → headQ P md ops C n L f done a → wpAny P md ops Q (f + g) done a w := by
  induction f with
  | zero => intro done a w hw h; rw [Nat.zero_add]; exact hL done a w hw h
  | succ f ih =>
    intro done a w hw h
    have e : f + 1 + g = (f + g) + 1 := by omega
    rw [e]
    refine ⟨fun h0 => (h.1 h0).elim, fun i hi => ?_⟩
    exact wpOp_of_qOp hw (fun a' w' hw' h' => ih _ a' w' hw' h') (h.2 i hi).2

theorem headQ_first {n i : Nat} {o : Oper} {v : Value} {L : Array Bool → Act → Prop} (ho : ops[i]? = some o) (hns : ∀ (j : Nat) (o : Oper) cs b, ops[j]? = some o → o.op ≠ .select cs b)
    (hwt : ∀ done, HeadInv md ops n done → done.getD i true = false → ∀ t, n ≤ t → t ∉ Region.ready md ops done)
    (hlast : ∀ done a, L done a → ∀ j ∈ Region.ready md ops done, n ≤ j) (f : Nat) :
    ∀ (done : Array Bool) (a : Act), HeadInv md ops n done →
      (∀ j oj, ops[j]? = some oj → j ≠ i → done.getD j true = false → (∀ e ∈ oj.after, Region.binds md e = true → e.on ≠ i) → o.apart ops oj = true) →
      i ∈ Region.ready md ops done → YieldsIn P ops C o v a → headQ P md ops C n L f (done.setIfInBounds i true) (a.put o.dst v) → headQ P md ops C n L (f + 1) done a := by
  induction f with
  | zero =>
    intro done a inv _ hr hy H
    refine ⟨List.ne_nil_of_mem hr, fun j hj => ?_⟩
    have hj1 : ¬ n ≤ j := fun h => hwt done inv (mem_ready.1 hr).1 j h hj
    refine ⟨by omega, ?_⟩
    by_cases e : j = i
    · rw [e]; exact hy.qOp ho H
    · have := hlast _ _ H j (ready_mono hj e)
      omega
  | succ f ih =>
    intro done a inv hap hr hy H
    refine ⟨List.ne_nil_of_mem hr, fun j hj => ?_⟩
    have hj1 : ¬ n ≤ j := fun h => hwt done inv (mem_ready.1 hr).1 j h hj
    have hjn : j < n := by omega
    refine ⟨hjn, ?_⟩
    by_cases e : j = i
    · rw [e]; exact hy.qOp ho H
    · obtain ⟨hju, oj, hoj, hw⟩ := mem_ready.1 hj
      have hno : ∀ e ∈ oj.after, Region.binds md e = true → e.on ≠ i := by
        intro x hx hb hxi
        have := hw x hx hb
        rw [hxi, getD_both (mem_ready.1 hr).1] at this
        cases this
      refine qOp_mono (fun a' h3 => ?_) (qOp_put hoj (hap j oj hoj e hju hno) (fun cs b => hns i o cs b ho) (fun cs b => hns j oj cs b hoj) hy (H.2 j (ready_mono hj e)).2)
      refine ih _ a' (inv.set hj hjn) (fun k ok hk hki hu hw2 => hap k ok hk hki ?_ hw2) (ready_mono hr (Ne.symm e)) h3.1 ?_
      · by_cases hjk : j = k
        · rw [← hjk]; exact hju
        · rw [getD_set_ne true hjk] at hu; exact hu
      · rw [Array.setIfInBounds_comm _ _ e]
        exact h3.2

theorem headQ_lex {n g p : Nat} {R : Act → Prop} (hns : Region.noSelect ops = true) (hwt : ∀ i, p ≤ i → i < n → ∀ done, HeadInv md ops n done → done.getD i true = false → ∀ t, n ≤ t → t ∉ Region.ready md ops done) (l : List Oper) :
    ∀ (k : Nat) (done : Array Bool) (a : Act), p ≤ k → (∀ j, j < l.length → l[j]? = ops[k + j]?) → k + l.length = n → HeadInv md ops n done → Region.lexHead md ops g l.length k done = true → wpQuiet P ops C R l a →
      headQ P md ops C n (fun d a' => Region.seqB md ops g n d = true ∧ R a') l.length done a := by
  induction l with
  | nil =>
    intro k done a _ _ hk _ hB h
    obtain rfl : k = n := hk
    exact ⟨hB, h⟩
  | cons o l ih =>
    intro k done a hpk hl hk inv hB h
    have h0 : ops[k]? = some o := by have := hl 0 (by simp); simpa using this.symm
    have hB' : ((Region.ready md ops done).contains k = true ∧ Region.free md ops done k = true) ∧ Region.lexHead md ops g l.length (k + 1) (done.setIfInBounds k true) = true := by
      have := hB
      simp only [List.length_cons, Region.lexHead, Bool.and_eq_true] at this
      exact this
    have hkn : k < n := by rw [← hk, List.length_cons]; omega
    have hr : k ∈ Region.ready md ops done := by simpa using hB'.1.1
    have hq : qOp P ops C k (wpQuiet P ops C R l) a := by unfold qOp; simp only [h0]; exact h
    obtain ⟨v, hy, hK⟩ := yieldsIn_of_qOp h0 hq
    refine headQ_first h0 (Region.noSelect_spec hns) (hwt k hpk hkn) (fun d a' hd => seqB_ready hd.1) l.length done a inv (Region.free_spec h0 hB'.1.2) hr hy ?_
    refine ih (k + 1) _ _ (by omega) (fun j hj => ?_) (by rw [← hk, List.length_cons]; omega) (inv.set hr hkn) hB'.2 hK
    have := hl (j + 1) (by rw [List.length_cons]; omega)
    rw [show k + 1 + j = k + (j + 1) by omega, ← this]
    rfl

theorem qTail_any {Q : Exit → Act → World → Prop} {a : Act} {w : World} {l : List Oper} (n : Nat) (C : World → Prop) (hB : Region.lexTailB .any l.toArray n = true) (hC : C w.drew)
    (h : QW P l.toArray C (fun a' => ∀ w', C w' → wpList P l.toArray Q (l.drop n) a' w') (l.take n) a) : wpAny P .any l.toArray Q l.toArray.size (Array.replicate l.toArray.size false) a w.drew := by
  unfold Region.lexTailB at hB
  simp only [Bool.and_eq_true, decide_eq_true_eq] at hB
  obtain ⟨⟨⟨⟨hns, hn⟩, hsk⟩, hch⟩, hx⟩ := hB
  have hnl : n < l.length := by simpa using hn
  have e1 : (l.take n).length = n := by rw [List.length_take]; omega
  have e2 : (l.drop n).length = l.toArray.size - n := by simp
  have inv : HeadInv .any l.toArray n (Array.replicate l.toArray.size false) := by
    refine ⟨by simp, fun j oj _ hd => ?_, fun t _ ht => getD_in (by simpa using ht) (getD_replicate_false _ _)⟩
    rw [getD_replicate_false] at hd
    cases hd
  have H := headQ_lex (P := P) (md := .any) (C := C) (g := l.toArray.size - n) (p := 0) hns (fun i _ hin done inv hu t ht => tail_waits hsk hch hn inv _ i rfl hin hu t ht) (l.take n) 0 _ a (Nat.le_refl _) (fun j hj => by
    rw [e1] at hj
    simp [hj]) (by omega) inv (by rw [e1]; exact hx) h.out
  rw [e1] at H
  have hfin := headQ_any (Q := Q) (g := l.toArray.size - n) (fun d a' w' hw' hd => by
    have := wpAny_of_seq (md := .any) (Q' := Q) (l.drop n) n d a' w' (fun j => by simp [List.getElem?_drop]) (by rw [e2]; exact hd.1) (hd.2 w' hw')
    rw [e2] at this
    exact this) n _ a w.drew hC H
  rw [show n + (l.toArray.size - n) = l.toArray.size by omega] at hfin
  exact hfin
/-- The region, its operations written out: the first n quiet in the class, the others one behind the other. -/
theorem qTail {id : Nat} {Q : Exit → Act → World → Prop} {a : Act} {w : World} {l : List Oper} (n : Nat) (C : World → Prop) (hm : P.follows .mixedOrders = true) (hB : Region.lexTailB .any l.toArray n = true) (hC : C w.drew)
    (h : QW P l.toArray C (fun a' => ∀ w', C w' → wpList P l.toArray Q (l.drop n) a' w') (l.take n) a) : (Code.region id l.toArray true).wp P Q a w :=
  wp_region_any hm (qTail_any n C hB hC h)
/-- Each of the head's operations from number p on is waited for by a later one, up to number n. -/
def sinkFrom (md : Region.Mode) (ops : Array Oper) (p n : Nat) : Bool :=
  (List.range n).all fun i => decide (i < p) || (List.range (n + 1)).any fun j => decide (i < j) && Region.waitsFor md ops j i
theorem sinkFrom_spec {p n i : Nat} (h : sinkFrom md ops p n = true) (hp : p ≤ i) (hi : i < n) : ∃ j, i < j ∧ j ≤ n ∧ ∃ oj, ops[j]? = some oj ∧ ∃ e ∈ oj.after, Region.binds md e = true ∧ e.on = i := by
  have h1 := List.all_eq_true.1 h i (List.mem_range.2 hi)
  rw [Bool.or_eq_true] at h1
  rcases h1 with h1 | h1
  · have := of_decide_eq_true h1
    omega
  · obtain ⟨j, hj, h2⟩ := List.any_eq_true.1 h1
    rw [Bool.and_eq_true] at h2
    exact ⟨j, of_decide_eq_true h2.1, by have := List.mem_range.1 hj; omega, Region.waitsFor_spec h2.2⟩
theorem late {p n : Nat} (hsk : sinkFrom md ops p n = true) (hch : Region.chainB md ops n = true) (hn : n < ops.size) : ∀ i, p ≤ i → i < n → ∀ done, HeadInv md ops n done → done.getD i true = false → ∀ t, n ≤ t → t ∉ Region.ready md ops done := by
  intro i hp hi done inv hu t ht hr
  have hready := mem_ready.1 hr
  by_cases htn : t = n
  · subst htn
    have key : ∀ m i, t - i = m → p ≤ i → i < t → done.getD i true = false → False := by
      intro m
      induction m using Nat.strongRecOn with
      | _ m ih =>
        intro i hm hp hi hu
        obtain ⟨j, hij, hjt, oj, hoj, e, he, hb, hon⟩ := sinkFrom_spec hsk hp hi
        obtain ⟨_, ot, hot, hall⟩ := hready
        rcases Nat.lt_or_ge j t with hlt | hge
        · rcases hd : done.getD j false with _ | _
          · exact ih (t - j) (by omega) j rfl (by omega) hlt (getD_in (by rw [inv.size]; omega) hd)
          · have := inv.closed j oj hoj hd e he hb
            rw [hon, getD_both hu] at this
            cases this
        · obtain rfl : j = t := by omega
          obtain rfl : oj = ot := Option.some.inj (hoj.symm.trans hot)
          have := hall e he hb
          rw [hon, getD_both hu] at this
          cases this
    exact key _ i rfl hp hi hu
  · obtain ⟨_, ot, hot, hall⟩ := hready
    have htl := (Array.getElem?_eq_some_iff.1 hot).1
    have h1 := List.all_eq_true.1 hch t (List.mem_range.2 htl)
    rw [Bool.or_eq_true] at h1
    rcases h1 with h1 | h1
    · have := of_decide_eq_true h1
      omega
    · obtain ⟨o', ho', e, he, hb, hon⟩ := Region.waitsFor_spec h1
      obtain rfl : o' = ot := Option.some.inj (ho'.symm.trans hot)
      have := hall e he hb
      rw [hon, getD_both (inv.tail (t - 1) (by omega) (by omega))] at this
      cases this
def tail1B (ops : Array Oper) (n : Nat) : Bool :=
  Region.noSelect ops && (decide (0 < n) && (decide (n < ops.size) && (sinkFrom .any ops 1 n && (Region.chainB .any ops n && ((Region.ready .any ops (Array.replicate ops.size false)).contains 0 && (Region.free .any ops (Array.replicate ops.size false) 0 && Region.lexHead .any ops (ops.size - n) (n - 1) 1 ((Array.replicate ops.size false).setIfInBounds 0 true)))))))
/-- The same where nothing in the head waits for its first operation, which copies a value: it is taken first. -/
theorem qTail1 {id : Nat} {Q : Exit → Act → World → Prop} {a : Act} {w : World} {o : Oper} {l : List Oper} (n : Nat) (C : World → Prop) (v : Value) (hm : P.follows .mixedOrders = true) (hB : tail1B (o :: l).toArray (n + 1) = true)
    (hp : ∀ c a w, Q (.panic c) (a.put o.dst v) w → Q (.panic c) a w) (hy : Yields P (o :: l).toArray o v a) (hC : C w.drew)
    (h : QW P (o :: l).toArray C (fun a' => ∀ w', C w' → wpList P (o :: l).toArray Q (l.drop n) a' w') (l.take n) (a.put o.dst v)) : (Code.region id (o :: l).toArray true).wp P Q a w := by
  unfold tail1B at hB
  simp only [Bool.and_eq_true, decide_eq_true_eq] at hB
  obtain ⟨hns, -, hn, hsk, hch, hr0, hf0, hx⟩ := hB
  obtain ⟨A, hA⟩ : ∃ A, A = (o :: l).toArray := ⟨_, rfl⟩
  have hsz : A.size = l.length + 1 := by rw [hA]; simp
  have h0 : A[0]? = some o := by rw [hA]; rfl
  have hat : ∀ j, A[j + 1]? = l[j]? := fun j => by rw [hA]; simp
  rw [← hA] at hn hsk hch hr0 hf0 hx hy h hns ⊢
  have hnl : n < l.length := by omega
  have e1 : (l.take n).length = n := by rw [List.length_take]; omega
  have e2 : (l.drop n).length = A.size - (n + 1) := by rw [List.length_drop, hsz]; omega
  have hr0' : 0 ∈ Region.ready .any A (Array.replicate A.size false) := by simpa using hr0
  have inv0 : HeadInv .any A (n + 1) (Array.replicate A.size false) := by
    refine ⟨by simp, fun j oj _ hd => ?_, fun t _ ht => getD_in (by simpa using ht) (getD_replicate_false _ _)⟩
    rw [getD_replicate_false] at hd
    cases hd
  have inv := inv0.set hr0' (Nat.succ_pos n)
  have H := headQ_lex (P := P) (md := .any) (C := C) (g := A.size - (n + 1)) (p := 1) hns (late hsk hch hn) (l.take n) 1 _ (a.put o.dst v) (Nat.le_refl _) (fun j hj => by
    rw [e1] at hj
    rw [Nat.add_comm 1 j, hat j, List.getElem?_take, if_pos hj]) (by omega) inv (by rw [e1]; exact hx) h.out
  rw [e1] at H
  refine wp_region_any hm ?_
  have hfin := headQ_any (Q := Q) (g := A.size - (n + 1)) (fun d a' w' hw' hd => by
    have := wpAny_of_seq (md := .any) (Q' := Q) (l.drop n) (n + 1) d a' w' (fun j => by rw [show n + 1 + j = (n + j) + 1 by omega, hat, List.getElem?_drop]) (by rw [e2]; exact hd.1) (hd.2 w' hw')
    rw [e2] at this
    exact this) n _ _ w.drew hC H
  have := wpAny_take (md := .any) (Q := Q) (fuel := n + (A.size - (n + 1))) (w := w.drew) h0 hns hf0 hr0 hp hy hfin
  rw [show n + (A.size - (n + 1)) + 1 = A.size by omega] at this
  exact this
end
end Go.Proofs.Ytlihcjlonafohaa
/- Walks: cmp.Compare of numbers, cmp.Or. (Taken out of XSdA.) -/
namespace Go.Proofs.Ytlihcjlonafohaa
open Go.RowKit Go.Joins
set_option linter.unusedSimpArgs false
set_option linter.unusedVariables false

/-- As cmp.Compare tells. -/
def cmpZ (a b : Int) : Int := if a < b then -1 else if b < a then 1 else 0
/-- The first that is not nought. -/
def orL : List Int → Int
  | [] => 0
  | x :: r => if x = 0 then orL r else x
set_option maxRecDepth 100000 in
set_option maxHeartbeats 2000000 in
theorem nan_u64 (a : Int) (w : World) : Calls Try.prog 73 #[.int .u64 a] w fun e w' => e = .returned (.bool false) ∧ w' = w := by
  go_enter Try.func73, Try.ntmps73
  go_wp2_with fail
  go_ret
  exact ⟨rfl, rfl⟩
set_option maxRecDepth 100000 in
set_option maxHeartbeats 2000000 in
theorem nan_int (a : Int) (w : World) : Calls Try.prog 86 #[.int .i64 a] w fun e w' => e = .returned (.bool false) ∧ w' = w := by
  go_enter Try.func86, Try.ntmps86
  go_wp2_with fail
  go_ret
  exact ⟨rfl, rfl⟩
set_option maxRecDepth 100000 in
set_option maxHeartbeats 2000000 in
theorem cmp_u64 (a b : Int) (w : World) : Calls Try.prog 61 #[.int .u64 a, .int .u64 b] w fun e w' => e = .returned (.int .i64 (cmpZ a b)) ∧ w' = w := by
  obtain ⟨r, hr⟩ : ∃ r, r = cmpZ a b := ⟨_, rfl⟩
  rw [← hr]
  have HR := Lib.hid hr
  clear hr
  go_enter Try.func61, Try.ntmps61
  go_wp2_with fail
  refine (nan_u64 a w).mono ?_
  rintro e w1 ⟨rfl, hw1⟩
  subst hw1
  go_wp2_with fail
  refine (nan_u64 b w1).mono ?_
  rintro e w2 ⟨rfl, hw2⟩
  subst hw2
  by_cases h1 : a < b
  · have HE : Hid (r = -1) := Lib.hid (by rw [HR.out]; unfold cmpZ; rw [if_pos h1])
    go_wp2_with fail
    go_ret
    exact ⟨by rw [HE.out]; rfl, rfl⟩
  · by_cases h2 : b < a
    · have HE : Hid (r = 1) := Lib.hid (by rw [HR.out]; unfold cmpZ; rw [if_neg h1, if_pos h2])
      go_wp2_with fail
      go_ret
      exact ⟨by rw [HE.out]; rfl, rfl⟩
    · have HE : Hid (r = 0) := Lib.hid (by rw [HR.out]; unfold cmpZ; rw [if_neg h1, if_neg h2])
      go_wp2_with fail
      go_ret
      exact ⟨by rw [HE.out]; rfl, rfl⟩
set_option maxRecDepth 100000 in
set_option maxHeartbeats 2000000 in
theorem cmp_int (a b : Int) (w : World) : Calls Try.prog 68 #[.int .i64 a, .int .i64 b] w fun e w' => e = .returned (.int .i64 (cmpZ a b)) ∧ w' = w := by
  obtain ⟨r, hr⟩ : ∃ r, r = cmpZ a b := ⟨_, rfl⟩
  rw [← hr]
  have HR := Lib.hid hr
  clear hr
  go_enter Try.func68, Try.ntmps68
  go_wp2_with fail
  refine (nan_int a w).mono ?_
  rintro e w1 ⟨rfl, hw1⟩
  subst hw1
  go_wp2_with fail
  refine (nan_int b w1).mono ?_
  rintro e w2 ⟨rfl, hw2⟩
  subst hw2
  by_cases h1 : a < b
  · have HE : Hid (r = -1) := Lib.hid (by rw [HR.out]; unfold cmpZ; rw [if_pos h1])
    go_wp2_with fail
    go_ret
    exact ⟨by rw [HE.out]; rfl, rfl⟩
  · by_cases h2 : b < a
    · have HE : Hid (r = 1) := Lib.hid (by rw [HR.out]; unfold cmpZ; rw [if_neg h1, if_pos h2])
      go_wp2_with fail
      go_ret
      exact ⟨by rw [HE.out]; rfl, rfl⟩
    · have HE : Hid (r = 0) := Lib.hid (by rw [HR.out]; unfold cmpZ; rw [if_neg h1, if_neg h2])
      go_wp2_with fail
      go_ret
      exact ⟨by rw [HE.out]; rfl, rfl⟩
theorem orL_take (L : List Int) : ∀ j, (∀ i (h : i < L.length), i < j → L[i] = 0) → (hj : j < L.length) → L[j] ≠ 0 → orL L = L[j] := by
  induction L with
  | nil => intro j _ hj; simp at hj
  | cons x r ih =>
    intro j h hj hne
    cases j with
    | zero => unfold orL; exact if_neg hne
    | succ j =>
      have hx : x = 0 := h 0 (by simp) (by omega)
      unfold orL
      rw [if_pos hx]
      exact ih j (fun i hi hij => h (i + 1) (by simpa using hi) (by omega)) (by simpa using hj) hne
theorem orL_zero (L : List Int) (h : ∀ i (hi : i < L.length), L[i] = 0) : orL L = 0 := by
  induction L with
  | nil => rfl
  | cons x r ih =>
    have hx : x = 0 := h 0 (by simp)
    unfold orL
    rw [if_pos hx]
    exact ih fun i hi => h (i + 1) (by simpa using hi)
set_option maxRecDepth 100000 in
set_option maxHeartbeats 2000000 in
theorem or_any (L : List Int) (b : Nat) (w : World) (hL : L.length ≤ 1000) (h : ∀ j (hj : j < L.length), w.cell? ⟨b, j, none⟩ = some (.int .i64 L[j])) :
    Calls Try.prog 60 #[.slice (some ⟨b, 0, none⟩) L.length L.length] w fun e w' => e = .returned (.int .i64 (orL L)) ∧ w' = w := by
  obtain ⟨n, hn⟩ : ∃ n, n = L.length := ⟨_, rfl⟩
  obtain ⟨r, hr⟩ : ∃ r, r = orL L := ⟨_, rfl⟩
  rw [← hr, ← hn]
  rw [← hn] at hL
  have HH := Lib.hid h
  have HN := Lib.hid hn
  have HR := Lib.hid hr
  clear h hn hr
  go_enter Try.func60, Try.ntmps60
  go_wp2_with fail
  go_loopw [8] (fun i wr => ∃ j : Nat, j ≤ n ∧ i = .int .i64 j ∧ Hid (∀ i (h : i < L.length), i < j → L[i] = 0) ∧ wr = w) (fun i _ => n - (intOf i).toNat)
  case atStart => exact ⟨0, Nat.zero_le _, rfl, Lib.hid (fun _ _ h => absurd h (Nat.not_lt_zero _)), rfl⟩
  case round =>
    obtain ⟨j, hj, rfl, hall, rfl⟩ := hrel
    by_cases hlt : j < n
    · have hj0 : (0 : Int) ≤ (j : Int) := Int.natCast_nonneg _
      have hj1 : (j : Int) < (n : Int) := by omega
      have hjl : j < L.length := by rw [← HN.out]; exact hlt
      have hc := HH.out j hjl
      obtain ⟨x, hx⟩ : ∃ x, x = L[j] := ⟨_, rfl⟩
      rw [← hx] at hc
      have HX := Lib.hid hx
      clear hx
      by_cases h0 : x = 0
      · have HA : Hid (∀ i (h : i < L.length), i < j + 1 → L[i] = 0) := Lib.hid fun i hi hij => by
          by_cases q : i = j
          · subst q; rw [← HX.out]; exact h0
          · exact hall.out i hi (by omega)
        subst h0
        go_wp2_with fail
        go_roundw
        case measure => simp [intOf]; omega
        case rel => exact ⟨j + 1, by omega, by go_num, HA, trivial⟩
      · have HE : Hid (r = x) := Lib.hid (by rw [HR.out, HX.out]; exact orL_take L j hall.out hjl (by rw [← HX.out]; exact h0))
        go_wp2_with fail
        go_ret
        exact ⟨by rw [HE.out]; rfl, rfl⟩
    · obtain rfl : j = n := by omega
      have HE : Hid (r = 0) := Lib.hid (by rw [HR.out]; exact orL_zero L fun i hi => hall.out i hi (by rw [HN.out]; exact hi))
      go_wp2_with fail
      go_ret
      exact ⟨by rw [HE.out]; rfl, rfl⟩
end Go.Proofs.Ytlihcjlonafohaa
/- slices.Sort laid at []string. -/
namespace Go.Proofs.Ytlihcjlonafohaa
open Go.Shelf Go.RowKit Go.Lib Go.Sort
def laysSrt_ren : Go.Shelf.Ren := ⟨fun | 6 => 39 | 8 => 63 | 9 => 62 | 19 => 82 | 20 => 83 | 21 => 74 | 22 => 75 | 23 => 76 | 24 => 77 | 25 => 78 | 26 => 79 | 27 => 64 | 28 => 80 | 29 => 81 | 31 => 90 | 32 => 91 | 36 => 89 | 37 => 92 | 38 => 93 | 39 => 84 | 41 => 97 | n => n, fun | 0 => 0 | 3 => 3 | 4 => 4 | 5 => 5 | 9 => 9 | 26 => 33 | 27 => 33 | 29 => 9 | 32 => 93 | 35 => 106 | 36 => 107 | 41 => 77 | 44 => 113 | 46 => 25 | 53 => 116 | 57 => 120 | 63 => 123 | 64 => 124 | n => n, fun | n => n⟩
set_option maxRecDepth 100000 in
theorem laysSrt : Go.Proofs.SlLaysM.n6 Try.prog laysSrt_ren := {
  mixed := by kernel_rfl
  f6 := ⟨Try.f39.name, by kernel_rfl, Try.func39.trans (congrArg some (by kernel_rfl))⟩
  f8 := Try.func63.trans (congrArg some (by kernel_rfl))
  f9 := ⟨Try.f62.name, by kernel_rfl, Try.func62.trans (congrArg some (by kernel_rfl))⟩
  f19 := Try.func82.trans (congrArg some (by kernel_rfl))
  f20 := Try.func83.trans (congrArg some (by kernel_rfl))
  f21 := ⟨Try.f74.name, by kernel_rfl, Try.func74.trans (congrArg some (by kernel_rfl))⟩
  f22 := ⟨Try.f75.name, by kernel_rfl, Try.func75.trans (congrArg some (by kernel_rfl))⟩
  f23 := ⟨Try.f76.name, by kernel_rfl, Try.func76.trans (congrArg some (by kernel_rfl))⟩
  f24 := ⟨Try.f77.name, by kernel_rfl, Try.func77.trans (congrArg some (by kernel_rfl))⟩
  f25 := ⟨Try.f78.name, by kernel_rfl, Try.func78.trans (congrArg some (by kernel_rfl))⟩
  f26 := ⟨Try.f79.name, by kernel_rfl, Try.func79.trans (congrArg some (by kernel_rfl))⟩
  f27 := ⟨Try.f64.name, by kernel_rfl, Try.func64.trans (congrArg some (by kernel_rfl))⟩
  f28 := ⟨Try.f80.name, by kernel_rfl, Try.func80.trans (congrArg some (by kernel_rfl))⟩
  f29 := ⟨Try.f81.name, by kernel_rfl, Try.func81.trans (congrArg some (by kernel_rfl))⟩
  f31 := Try.func90.trans (congrArg some (by kernel_rfl))
  f32 := Try.func91.trans (congrArg some (by kernel_rfl))
  f36 := ⟨Try.f89.name, by kernel_rfl, Try.func89.trans (congrArg some (by kernel_rfl))⟩
  f37 := ⟨Try.f92.name, by kernel_rfl, Try.func92.trans (congrArg some (by kernel_rfl))⟩
  f38 := ⟨Try.f93.name, by kernel_rfl, Try.func93.trans (congrArg some (by kernel_rfl))⟩
  f39 := ⟨Try.f84.name, by kernel_rfl, Try.func84.trans (congrArg some (by kernel_rfl))⟩
  f41 := ⟨Try.f97.name, by kernel_rfl, Try.func97.trans (congrArg some (by kernel_rfl))⟩
  t0 := Try.underlying0
  a0 := Try.isAgg0
  z0 := Try.sizeOf0
  v0 := Try.zeroValue0
  t3 := Try.underlying3
  a3 := Try.isAgg3
  z3 := Try.sizeOf3
  v3 := Try.zeroValue3
  t4 := Try.underlying4
  a4 := Try.isAgg4
  z4 := Try.sizeOf4
  v4 := Try.zeroValue4
  t5 := Try.underlying5
  a5 := Try.isAgg5
  z5 := Try.sizeOf5
  v5 := Try.zeroValue5
  t9 := Try.underlying9
  a9 := Try.isAgg9
  z9 := Try.sizeOf9
  v9 := Try.zeroValue9
  t26 := Try.underlying33
  a26 := Try.isAgg33
  z26 := Try.sizeOf33
  v26 := Try.zeroValue33
  t27 := Try.underlying33
  a27 := Try.isAgg33
  z27 := Try.sizeOf33
  v27 := Try.zeroValue33
  t29 := Try.underlying9
  a29 := Try.isAgg9
  z29 := Try.sizeOf9
  v29 := Try.zeroValue9
  t32 := Try.underlying93
  a32 := Try.isAgg93
  z32 := Try.sizeOf93
  v32 := Try.zeroValue93
  t35 := Try.underlying106
  a35 := Try.isAgg106
  z35 := Try.sizeOf106
  v35 := Try.zeroValue106
  t36 := Try.underlying107
  a36 := Try.isAgg107
  z36 := Try.sizeOf107
  v36 := Try.zeroValue107
  t41 := Try.underlying77
  a41 := Try.isAgg77
  z41 := Try.sizeOf77
  v41 := Try.zeroValue77
  t44 := Try.underlying113
  a44 := Try.isAgg113
  z44 := Try.sizeOf113
  v44 := Try.zeroValue113
  t46 := Try.underlying25
  a46 := Try.isAgg25
  z46 := Try.sizeOf25
  v46 := Try.zeroValue25
  t53 := Try.underlying116
  a53 := Try.isAgg116
  z53 := Try.sizeOf116
  v53 := Try.zeroValue116
  t57 := Try.underlying120
  a57 := Try.isAgg120
  z57 := Try.sizeOf120
  v57 := Try.zeroValue120
  t63 := Try.underlying123
  a63 := Try.isAgg123
  z63 := Try.sizeOf123
  v63 := Try.zeroValue123
  t64 := Try.underlying124
  a64 := Try.isAgg124
  z64 := Try.sizeOf124
  v64 := Try.zeroValue124 }
end Go.Proofs.Ytlihcjlonafohaa
