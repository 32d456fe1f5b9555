/- A region that draws its order: its first operations read cells of a class of worlds, and its calls answer one value and leave the class; the others stand in one order behind all of these. It names no program. -/
import Derived.Test.YtboonfbbnidmbaaQuiet
import Derived.StillTail
namespace Go.Proofs.Ytboonfbbnidmbaa

section
variable {P : Program} {ops : Array Oper} {md : Region.Mode} {C : World → Prop}
/-- Whatever may come up is of the head and quiet, f times; then L. -/
def headQ (P : Program) (md : Region.Mode) (ops : Array Oper) (C : World → Prop) (n : Nat) (L : Array Bool → Act → Prop) : Nat → Array Bool → Act → Prop
  | 0, done, a => L done a
  | f + 1, done, a => Region.ready md ops done ≠ [] ∧ ∀ i, i ∈ Region.ready md ops done → i < n ∧ qOp P ops C i (headQ P md ops C n L f (done.setIfInBounds i true)) a

theorem headQ_any {n g : Nat} {L : Array Bool → Act → Prop} {Q : Exit → Act → World → Prop} (hL : ∀ done a w, C w → L done a → wpAny P md ops Q g done a w) (f : Nat) :
    ∀ (done : Array Bool) (a : Act) (w : World), C w → headQ P md ops C n L f done a → wpAny P md ops Q (f + g) done a w := by
  induction f with
  | zero => intro done a w hw h; rw [Nat.zero_add]; exact hL done a w hw h
  | succ f ih =>
    intro done a w hw h
    have e : f + 1 + g = (f + g) + 1 := by omega
    rw [e]
    refine ⟨fun h0 => (h.1 h0).elim, fun i hi => ?_⟩
    exact wpOp_of_qOp hw (fun a' w' hw' h' => ih _ a' w' hw' h') (h.2 i hi).2

theorem headQ_first {n i : Nat} {o : Oper} {v : Value} {L : Array Bool → Act → Prop} (ho : ops[i]? = some o) (hns : ∀ (j : Nat) (o : Oper) cs b, ops[j]? = some o → o.op ≠ .select cs b)
    (hwt : ∀ done, HeadInv md ops n done → done.getD i true = false → ∀ t, n ≤ t → t ∉ Region.ready md ops done)
    (hlast : ∀ done a, L done a → ∀ j ∈ Region.ready md ops done, n ≤ j) (f : Nat) :
    ∀ (done : Array Bool) (a : Act), HeadInv md ops n done →
      (∀ j oj, ops[j]? = some oj → j ≠ i → done.getD j true = false → (∀ e ∈ oj.after, Region.binds md e = true → e.on ≠ i) → o.apart ops oj = true) →
      i ∈ Region.ready md ops done → YieldsIn P ops C o v a → headQ P md ops C n L f (done.setIfInBounds i true) (a.put o.dst v) → headQ P md ops C n L (f + 1) done a := by
  induction f with
  | zero =>
    intro done a inv _ hr hy H
    refine ⟨List.ne_nil_of_mem hr, fun j hj => ?_⟩
    have hj1 : ¬ n ≤ j := fun h => hwt done inv (mem_ready.1 hr).1 j h hj
    refine ⟨by omega, ?_⟩
    by_cases e : j = i
    · rw [e]; exact hy.qOp ho H
    · have := hlast _ _ H j (ready_mono hj e)
      omega
  | succ f ih =>
    intro done a inv hap hr hy H
    refine ⟨List.ne_nil_of_mem hr, fun j hj => ?_⟩
    have hj1 : ¬ n ≤ j := fun h => hwt done inv (mem_ready.1 hr).1 j h hj
    have hjn : j < n := by omega
    refine ⟨hjn, ?_⟩
    by_cases e : j = i
    · rw [e]; exact hy.qOp ho H
    · obtain ⟨hju, oj, hoj, hw⟩ := mem_ready.1 hj
      have hno : ∀ e ∈ oj.after, Region.binds md e = true → e.on ≠ i := by
        intro x hx hb hxi
        have := hw x hx hb
        rw [hxi, getD_both (mem_ready.1 hr).1] at this
        cases this
      refine qOp_mono (fun a' h3 => ?_) (qOp_put hoj (hap j oj hoj e hju hno) (fun cs b => hns i o cs b ho) (fun cs b => hns j oj cs b hoj) hy (H.2 j (ready_mono hj e)).2)
      refine ih _ a' (inv.set hj hjn) (fun k ok hk hki hu hw2 => hap k ok hk hki ?_ hw2) (ready_mono hr (Ne.symm e)) h3.1 ?_
      · by_cases hjk : j = k
        · rw [← hjk]; exact hju
        · rw [getD_set_ne true hjk] at hu; exact hu
      · rw [Array.setIfInBounds_comm _ _ e]
        exact h3.2

theorem headQ_lex {n g p : Nat} {R : Act → Prop} (hns : Region.noSelect ops = true) (hwt : ∀ i, p ≤ i → i < n → ∀ done, HeadInv md ops n done → done.getD i true = false → ∀ t, n ≤ t → t ∉ Region.ready md ops done) (l : List Oper) :
    ∀ (k : Nat) (done : Array Bool) (a : Act), p ≤ k → (∀ j, j < l.length → l[j]? = ops[k + j]?) → k + l.length = n → HeadInv md ops n done → Region.lexHead md ops g l.length k done = true → wpQuiet P ops C R l a →
      headQ P md ops C n (fun d a' => Region.seqB md ops g n d = true ∧ R a') l.length done a := by
  induction l with
  | nil =>
    intro k done a _ _ hk _ hB h
    obtain rfl : k = n := hk
    exact ⟨hB, h⟩
  | cons o l ih =>
    intro k done a hpk hl hk inv hB h
    have h0 : ops[k]? = some o := by have := hl 0 (by simp); simpa using this.symm
    have hB' : ((Region.ready md ops done).contains k = true ∧ Region.free md ops done k = true) ∧ Region.lexHead md ops g l.length (k + 1) (done.setIfInBounds k true) = true := by
      have := hB
      simp only [List.length_cons, Region.lexHead, Bool.and_eq_true] at this
      exact this
    have hkn : k < n := by rw [← hk, List.length_cons]; omega
    have hr : k ∈ Region.ready md ops done := by simpa using hB'.1.1
    have hq : qOp P ops C k (wpQuiet P ops C R l) a := by unfold qOp; simp only [h0]; exact h
    obtain ⟨v, hy, hK⟩ := yieldsIn_of_qOp h0 hq
    refine headQ_first h0 (Region.noSelect_spec hns) (hwt k hpk hkn) (fun d a' hd => seqB_ready hd.1) l.length done a inv (Region.free_spec h0 hB'.1.2) hr hy ?_
    refine ih (k + 1) _ _ (by omega) (fun j hj => ?_) (by rw [← hk, List.length_cons]; omega) (inv.set hr hkn) hB'.2 hK
    have := hl (j + 1) (by rw [List.length_cons]; omega)
    rw [show k + 1 + j = k + (j + 1) by omega, ← this]
    rfl

theorem qTail_any {Q : Exit → Act → World → Prop} {a : Act} {w : World} {l : List Oper} (n : Nat) (C : World → Prop) (hB : Region.lexTailB .any l.toArray n = true) (hC : C w.drew)
    (h : QW P l.toArray C (fun a' => ∀ w', C w' → wpList P l.toArray Q (l.drop n) a' w') (l.take n) a) : wpAny P .any l.toArray Q l.toArray.size (Array.replicate l.toArray.size false) a w.drew := by
  unfold Region.lexTailB at hB
  simp only [Bool.and_eq_true, decide_eq_true_eq] at hB
  obtain ⟨⟨⟨⟨hns, hn⟩, hsk⟩, hch⟩, hx⟩ := hB
  have hnl : n < l.length := by simpa using hn
  have e1 : (l.take n).length = n := by rw [List.length_take]; omega
  have e2 : (l.drop n).length = l.toArray.size - n := by simp
  have inv : HeadInv .any l.toArray n (Array.replicate l.toArray.size false) := by
    refine ⟨by simp, fun j oj _ hd => ?_, fun t _ ht => getD_in (by simpa using ht) (getD_replicate_false _ _)⟩
    rw [getD_replicate_false] at hd
    cases hd
  have H := headQ_lex (P := P) (md := .any) (C := C) (g := l.toArray.size - n) (p := 0) hns (fun i _ hin done inv hu t ht => tail_waits hsk hch hn inv _ i rfl hin hu t ht) (l.take n) 0 _ a (Nat.le_refl _) (fun j hj => by
    rw [e1] at hj
    simp [hj]) (by omega) inv (by rw [e1]; exact hx) h.out
  rw [e1] at H
  have hfin := headQ_any (Q := Q) (g := l.toArray.size - n) (fun d a' w' hw' hd => by
    have := wpAny_of_seq (md := .any) (Q' := Q) (l.drop n) n d a' w' (fun j => by simp [List.getElem?_drop]) (by rw [e2]; exact hd.1) (hd.2 w' hw')
    rw [e2] at this
    exact this) n _ a w.drew hC H
  rw [show n + (l.toArray.size - n) = l.toArray.size by omega] at hfin
  exact hfin
/-- The region, its operations written out: the first n quiet in the class, the others one behind the other. -/
theorem qTail {id : Nat} {Q : Exit → Act → World → Prop} {a : Act} {w : World} {l : List Oper} (n : Nat) (C : World → Prop) (hm : P.follows .mixedOrders = true) (hB : Region.lexTailB .any l.toArray n = true) (hC : C w.drew)
    (h : QW P l.toArray C (fun a' => ∀ w', C w' → wpList P l.toArray Q (l.drop n) a' w') (l.take n) a) : (Code.region id l.toArray true).wp P Q a w :=
  wp_region_any hm (qTail_any n C hB hC h)
/-- Each of the head's operations from number p on is waited for by a later one, up to number n. -/
def sinkFrom (md : Region.Mode) (ops : Array Oper) (p n : Nat) : Bool :=
  (List.range n).all fun i => decide (i < p) || (List.range (n + 1)).any fun j => decide (i < j) && Region.waitsFor md ops j i
theorem sinkFrom_spec {p n i : Nat} (h : sinkFrom md ops p n = true) (hp : p ≤ i) (hi : i < n) : ∃ j, i < j ∧ j ≤ n ∧ ∃ oj, ops[j]? = some oj ∧ ∃ e ∈ oj.after, Region.binds md e = true ∧ e.on = i := by
  have h1 := List.all_eq_true.1 h i (List.mem_range.2 hi)
  rw [Bool.or_eq_true] at h1
  rcases h1 with h1 | h1
  · have := of_decide_eq_true h1
    omega
  · obtain ⟨j, hj, h2⟩ := List.any_eq_true.1 h1
    rw [Bool.and_eq_true] at h2
    exact ⟨j, of_decide_eq_true h2.1, by have := List.mem_range.1 hj; omega, Region.waitsFor_spec h2.2⟩
theorem late {p n : Nat} (hsk : sinkFrom md ops p n = true) (hch : Region.chainB md ops n = true) (hn : n < ops.size) : ∀ i, p ≤ i → i < n → ∀ done, HeadInv md ops n done → done.getD i true = false → ∀ t, n ≤ t → t ∉ Region.ready md ops done := by
  intro i hp hi done inv hu t ht hr
  have hready := mem_ready.1 hr
  by_cases htn : t = n
  · subst htn
    have key : ∀ m i, t - i = m → p ≤ i → i < t → done.getD i true = false → False := by
      intro m
      induction m using Nat.strongRecOn with
      | _ m ih =>
        intro i hm hp hi hu
        obtain ⟨j, hij, hjt, oj, hoj, e, he, hb, hon⟩ := sinkFrom_spec hsk hp hi
        obtain ⟨_, ot, hot, hall⟩ := hready
        rcases Nat.lt_or_ge j t with hlt | hge
        · rcases hd : done.getD j false with _ | _
          · exact ih (t - j) (by omega) j rfl (by omega) hlt (getD_in (by rw [inv.size]; omega) hd)
          · have := inv.closed j oj hoj hd e he hb
            rw [hon, getD_both hu] at this
            cases this
        · obtain rfl : j = t := by omega
          obtain rfl : oj = ot := Option.some.inj (hoj.symm.trans hot)
          have := hall e he hb
          rw [hon, getD_both hu] at this
          cases this
    exact key _ i rfl hp hi hu
  · obtain ⟨_, ot, hot, hall⟩ := hready
    have htl := (Array.getElem?_eq_some_iff.1 hot).1
    have h1 := List.all_eq_true.1 hch t (List.mem_range.2 htl)
    rw [Bool.or_eq_true] at h1
    rcases h1 with h1 | h1
    · have := of_decide_eq_true h1
      omega
    · obtain ⟨o', ho', e, he, hb, hon⟩ := Region.waitsFor_spec h1
      obtain rfl : o' = ot := Option.some.inj (ho'.symm.trans hot)
      have := hall e he hb
      rw [hon, getD_both (inv.tail (t - 1) (by omega) (by omega))] at this
      cases this
def tail1B (ops : Array Oper) (n : Nat) : Bool :=
  Region.noSelect ops && (decide (0 < n) && (decide (n < ops.size) && (sinkFrom .any ops 1 n && (Region.chainB .any ops n && ((Region.ready .any ops (Array.replicate ops.size false)).contains 0 && (Region.free .any ops (Array.replicate ops.size false) 0 && Region.lexHead .any ops (ops.size - n) (n - 1) 1 ((Array.replicate ops.size false).setIfInBounds 0 true)))))))
/-- The same where nothing in the head waits for its first operation, which copies a value: it is taken first. -/
theorem qTail1 {id : Nat} {Q : Exit → Act → World → Prop} {a : Act} {w : World} {o : Oper} {l : List Oper} (n : Nat) (C : World → Prop) (v : Value) (hm : P.follows .mixedOrders = true) (hB : tail1B (o :: l).toArray (n + 1) = true)
    (hp : ∀ c a w, Q (.panic c) (a.put o.dst v) w → Q (.panic c) a w) (hy : Yields P (o :: l).toArray o v a) (hC : C w.drew)
    (h : QW P (o :: l).toArray C (fun a' => ∀ w', C w' → wpList P (o :: l).toArray Q (l.drop n) a' w') (l.take n) (a.put o.dst v)) : (Code.region id (o :: l).toArray true).wp P Q a w := by
  unfold tail1B at hB
  simp only [Bool.and_eq_true, decide_eq_true_eq] at hB
  obtain ⟨hns, -, hn, hsk, hch, hr0, hf0, hx⟩ := hB
  obtain ⟨A, hA⟩ : ∃ A, A = (o :: l).toArray := ⟨_, rfl⟩
  have hsz : A.size = l.length + 1 := by rw [hA]; simp
  have h0 : A[0]? = some o := by rw [hA]; rfl
  have hat : ∀ j, A[j + 1]? = l[j]? := fun j => by rw [hA]; simp
  rw [← hA] at hn hsk hch hr0 hf0 hx hy h hns ⊢
  have hnl : n < l.length := by omega
  have e1 : (l.take n).length = n := by rw [List.length_take]; omega
  have e2 : (l.drop n).length = A.size - (n + 1) := by rw [List.length_drop, hsz]; omega
  have hr0' : 0 ∈ Region.ready .any A (Array.replicate A.size false) := by simpa using hr0
  have inv0 : HeadInv .any A (n + 1) (Array.replicate A.size false) := by
    refine ⟨by simp, fun j oj _ hd => ?_, fun t _ ht => getD_in (by simpa using ht) (getD_replicate_false _ _)⟩
    rw [getD_replicate_false] at hd
    cases hd
  have inv := inv0.set hr0' (Nat.succ_pos n)
  have H := headQ_lex (P := P) (md := .any) (C := C) (g := A.size - (n + 1)) (p := 1) hns (late hsk hch hn) (l.take n) 1 _ (a.put o.dst v) (Nat.le_refl _) (fun j hj => by
    rw [e1] at hj
    rw [Nat.add_comm 1 j, hat j, List.getElem?_take, if_pos hj]) (by omega) inv (by rw [e1]; exact hx) h.out
  rw [e1] at H
  refine wp_region_any hm ?_
  have hfin := headQ_any (Q := Q) (g := A.size - (n + 1)) (fun d a' w' hw' hd => by
    have := wpAny_of_seq (md := .any) (Q' := Q) (l.drop n) (n + 1) d a' w' (fun j => by rw [show n + 1 + j = (n + j) + 1 by omega, hat, List.getElem?_drop]) (by rw [e2]; exact hd.1) (hd.2 w' hw')
    rw [e2] at this
    exact this) n _ _ w.drew hC H
  have := wpAny_take (md := .any) (Q := Q) (fuel := n + (A.size - (n + 1))) (w := w.drew) h0 hns hf0 hr0 hp hy hfin
  rw [show n + (A.size - (n + 1)) + 1 = A.size by omega] at this
  exact this
end
end Go.Proofs.Ytboonfbbnidmbaa
