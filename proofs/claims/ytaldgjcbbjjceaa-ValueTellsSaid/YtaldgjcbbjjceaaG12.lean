/- Texts QTail, ValA, ValB, joined. -/
import Derived.Test.YtaldgjcbbjjceaaG02
import Derived.StillTail
import Derived.Test.YtaldgjcbbjjceaaG08
import Derived.Test.YtaldgjcbbjjceaaG07
import Derived.Test.YtaldgjcbbjjceaaG06
import Derived.Test.YtaldgjcbbjjceaaG09
/- A region that draws its order: its first operations read cells of a class of worlds, and its calls answer one value and leave the class; the others stand in one order behind all of these. It names no program. -/
namespace Go.Proofs.Ytaldgjcbbjjceaa

section
variable {P : Program} {ops : Array Oper} {md : Region.Mode} {C : World → Prop}
/-- Whatever may come up is of the head and quiet, f times; then L. -/
def headQ (P : Program) (md : Region.Mode) (ops : Array Oper) (C : World → Prop) (n : Nat) (L : Array Bool → Act → Prop) : Nat → Array Bool → Act → Prop
  | 0, done, a => L done a
  | f + 1, done, a => Region.ready md ops done ≠ [] ∧ ∀ i, i ∈ Region.ready md ops done → i < n ∧ qOp P ops C i (headQ P md ops C n L f (done.setIfInBounds i true)) a

theorem headQ_any {n g : Nat} {L : Array Bool → Act → Prop} {Q : Exit → Act → World → Prop} (hL : ∀ done a w, C w → L done a → wpAny P md ops Q g done a w) (f : Nat) :
    ∀ (done : Array Bool) (a : Act) (w : World), C w → headQ P md ops C n L f done a → wpAny P md ops Q (f + g) done a w := by
  induction f with
  | zero => intro done a w hw h; rw [Nat.zero_add]; exact hL done a w hw h
  | succ f ih =>
    intro done a w hw h
    have e : f + 1 + g = (f + g) + 1 := by omega
    rw [e]
    refine ⟨fun h0 => (h.1 h0).elim, fun i hi => ?_⟩
    exact wpOp_of_qOp hw (fun a' w' hw' h' => ih _ a' w' hw' h') (h.2 i hi).2

theorem headQ_first {n i : Nat} {o : Oper} {v : Value} {L : Array Bool → Act → Prop} (ho : ops[i]? = some o) (hns : ∀ (j : Nat) (o : Oper) cs b, ops[j]? = some o → o.op ≠ .select cs b)
    (hwt : ∀ done, HeadInv md ops n done → done.getD i true = false → ∀ t, n ≤ t → t ∉ Region.ready md ops done)
    (hlast : ∀ done a, L done a → ∀ j ∈ Region.ready md ops done, n ≤ j) (f : Nat) :
    ∀ (done : Array Bool) (a : Act), HeadInv md ops n done →
      (∀ j oj, ops[j]? = some oj → j ≠ i → done.getD j true = false → (∀ e ∈ oj.after, Region.binds md e = true → e.on ≠ i) → o.apart ops oj = true) →
      i ∈ Region.ready md ops done → YieldsIn P ops C o v a → headQ P md ops C n L f (done.setIfInBounds i true) (a.put o.dst v) → headQ P md ops C n L (f + 1) done a := by
  induction f with
  | zero =>
    intro done a inv _ hr hy H
    refine ⟨List.ne_nil_of_mem hr, fun j hj => ?_⟩
    have hj1 : ¬ n ≤ j := fun h => hwt done inv (mem_ready.1 hr).1 j h hj
    refine ⟨by omega, ?_⟩
    by_cases e : j = i
    · rw [e]; exact hy.qOp ho H
    · have := hlast _ _ H j (ready_mono hj e)
      omega
  | succ f ih =>
    intro done a inv hap hr hy H
    refine ⟨List.ne_nil_of_mem hr, fun j hj => ?_⟩
    have hj1 : ¬ n ≤ j := fun h => hwt done inv (mem_ready.1 hr).1 j h hj
    have hjn : j < n := by omega
    refine ⟨hjn, ?_⟩
    by_cases e : j = i
    · rw [e]; exact hy.qOp ho H
    · obtain ⟨hju, oj, hoj, hw⟩ := mem_ready.1 hj
      have hno : ∀ e ∈ oj.after, Region.binds md e = true → e.on ≠ i := by
        intro x hx hb hxi
        have := hw x hx hb
        rw [hxi, getD_both (mem_ready.1 hr).1] at this
        cases this
      refine qOp_mono (fun a' h3 => ?_) (qOp_put hoj (hap j oj hoj e hju hno) (fun cs b => hns i o cs b ho) (fun cs b => hns j oj cs b hoj) hy (H.2 j (ready_mono hj e)).2)
      refine ih _ a' (inv.set hj hjn) (fun k ok hk hki hu hw2 => hap k ok hk hki ?_ hw2) (ready_mono hr (Ne.symm e)) h3.1 ?_
      · by_cases hjk : j = k
        · rw [← hjk]; exact hju
        · rw [getD_set_ne true hjk] at hu; exact hu
      · rw [Array.setIfInBounds_comm _ _ e]
        exact h3.2

theorem headQ_lex {n g p : Nat} {R : Act → Prop} (hns : Region.noSelect ops = true) (hwt : ∀ i, p ≤ i → i < n → ∀ done, HeadInv md ops n done → done.getD i true = false → ∀ t, n ≤ t → t ∉ Region.ready md ops done) (l : List Oper) :
    ∀ (k : Nat) (done : Array Bool) (a : Act), p ≤ k → (∀ j, j < l.length → l[j]? = ops[k + j]?) → k + l.length = n → HeadInv md ops n done → Region.lexHead md ops g l.length k done = true → wpQuiet P ops C R l a →
      headQ P md ops C n (fun d a' => Region.seqB md ops g n d = true ∧ R a') l.length done a := by
  induction l with
  | nil =>
    intro k done a _ _ hk _ hB h
    obtain rfl : k = n := hk
    exact ⟨hB, h⟩
  | cons o l ih =>
    intro k done a hpk hl hk inv hB h
    have h0 : ops[k]? = some o := by have := hl 0 (by simp); simpa using this.symm
    have hB' : ((Region.ready md ops done).contains k = true ∧ Region.free md ops done k = true) ∧ Region.lexHead md ops g l.length (k + 1) (done.setIfInBounds k true) = true := by
      have := hB
      simp only [List.length_cons, Region.lexHead, Bool.and_eq_true] at this
      exact this
    have hkn : k < n := by rw [← hk, List.length_cons]; omega
    have hr : k ∈ Region.ready md ops done := by simpa using hB'.1.1
    have hq : qOp P ops C k (wpQuiet P ops C R l) a := by unfold qOp; simp only [h0]; exact h
    obtain ⟨v, hy, hK⟩ := yieldsIn_of_qOp h0 hq
    refine headQ_first h0 (Region.noSelect_spec hns) (hwt k hpk hkn) (fun d a' hd => seqB_ready hd.1) l.length done a inv (Region.free_spec h0 hB'.1.2) hr hy ?_
    refine ih (k + 1) _ _ (by omega) (fun j hj => ?_) (by rw [← hk, List.length_cons]; omega) (inv.set hr hkn) hB'.2 hK
    have := hl (j + 1) (by rw [List.length_cons]; omega)
    rw [show k + 1 + j = k + (j + 1) by omega, ← this]
    rfl

theorem qTail_any {Q : Exit → Act → World → Prop} {a : Act} {w : World} {l : List Oper} (n : Nat) (C : World → Prop) (hB : Region.lexTailB .any l.toArray n = true) (hC : C w.drew)
    (h : QW P l.toArray C (fun a' => ∀ w', C w' → wpList P l.toArray Q (l.drop n) a' w') (l.take n) a) : wpAny P .any l.toArray Q l.toArray.size (Array.replicate l.toArray.size false) a w.drew := by
  unfold Region.lexTailB at hB
  simp only [Bool.and_eq_true, decide_eq_true_eq] at hB
  obtain ⟨⟨⟨⟨hns, hn⟩, hsk⟩, hch⟩, hx⟩ := hB
  have hnl : n < l.length := by simpa using hn
  have e1 : (l.take n).length = n := by rw [List.length_take]; omega
  have e2 : (l.drop n).length = l.toArray.size - n := by simp
  have inv : HeadInv .any l.toArray n (Array.replicate l.toArray.size false) := by
    refine ⟨by simp, fun j oj _ hd => ?_, fun t _ ht => getD_in (by simpa using ht) (getD_replicate_false _ _)⟩
    rw [getD_replicate_false] at hd
    cases hd
  have H := headQ_lex (P := P) (md := .any) (C := C) (g := l.toArray.size - n) (p := 0) hns (fun i _ hin done inv hu t ht => tail_waits hsk hch hn inv _ i rfl hin hu t ht) (l.take n) 0 _ a (Nat.le_refl _) (fun j hj => by
    rw [e1] at hj
    simp [hj]) (by omega) inv (by rw [e1]; exact hx) h.out
  rw [e1] at H
  have hfin := headQ_any (Q := Q) (g := l.toArray.size - n) (fun d a' w' hw' hd => by
    have := wpAny_of_seq (md := .any) (Q' := Q) (l.drop n) n d a' w' (fun j => by simp [List.getElem?_drop]) (by rw [e2]; exact hd.1) (hd.2 w' hw')
    rw [e2] at this
    exact this) n _ a w.drew hC H
  rw [show n + (l.toArray.size - n) = l.toArray.size by omega] at hfin
  exact hfin
/-- The region, its operations written out: the first n quiet in the class, the others one behind the other. -/
theorem qTail {id : Nat} {Q : Exit → Act → World → Prop} {a : Act} {w : World} {l : List Oper} (n : Nat) (C : World → Prop) (hm : P.follows .mixedOrders = true) (hB : Region.lexTailB .any l.toArray n = true) (hC : C w.drew)
    (h : QW P l.toArray C (fun a' => ∀ w', C w' → wpList P l.toArray Q (l.drop n) a' w') (l.take n) a) : (Code.region id l.toArray true).wp P Q a w :=
  wp_region_any hm (qTail_any n C hB hC h)
/-- Each of the head's operations from number p on is waited for by a later one, up to number n. -/
def sinkFrom (md : Region.Mode) (ops : Array Oper) (p n : Nat) : Bool :=
  (List.range n).all fun i => decide (i < p) || (List.range (n + 1)).any fun j => decide (i < j) && Region.waitsFor md ops j i
theorem sinkFrom_spec {p n i : Nat} (h : sinkFrom md ops p n = true) (hp : p ≤ i) (hi : i < n) : ∃ j, i < j ∧ j ≤ n ∧ ∃ oj, ops[j]? = some oj ∧ ∃ e ∈ oj.after, Region.binds md e = true ∧ e.on = i := by
  have h1 := List.all_eq_true.1 h i (List.mem_range.2 hi)
  rw [Bool.or_eq_true] at h1
  rcases h1 with h1 | h1
  · have := of_decide_eq_true h1
    omega
  · obtain ⟨j, hj, h2⟩ := List.any_eq_true.1 h1
    rw [Bool.and_eq_true] at h2
    exact ⟨j, of_decide_eq_true h2.1, by have := List.mem_range.1 hj; omega, Region.waitsFor_spec h2.2⟩
theorem late {p n : Nat} (hsk : sinkFrom md ops p n = true) (hch : Region.chainB md ops n = true) (hn : n < ops.size) : ∀ i, p ≤ i → i < n → ∀ done, HeadInv md ops n done → done.getD i true = false → ∀ t, n ≤ t → t ∉ Region.ready md ops done := by
  intro i hp hi done inv hu t ht hr
  have hready := mem_ready.1 hr
  by_cases htn : t = n
  · subst htn
    have key : ∀ m i, t - i = m → p ≤ i → i < t → done.getD i true = false → False := by
      intro m
      induction m using Nat.strongRecOn with
      | _ m ih =>
        intro i hm hp hi hu
        obtain ⟨j, hij, hjt, oj, hoj, e, he, hb, hon⟩ := sinkFrom_spec hsk hp hi
        obtain ⟨_, ot, hot, hall⟩ := hready
        rcases Nat.lt_or_ge j t with hlt | hge
        · rcases hd : done.getD j false with _ | _
          · exact ih (t - j) (by omega) j rfl (by omega) hlt (getD_in (by rw [inv.size]; omega) hd)
          · have := inv.closed j oj hoj hd e he hb
            rw [hon, getD_both hu] at this
            cases this
        · obtain rfl : j = t := by omega
          obtain rfl : oj = ot := Option.some.inj (hoj.symm.trans hot)
          have := hall e he hb
          rw [hon, getD_both hu] at this
          cases this
    exact key _ i rfl hp hi hu
  · obtain ⟨_, ot, hot, hall⟩ := hready
    have htl := (Array.getElem?_eq_some_iff.1 hot).1
    have h1 := List.all_eq_true.1 hch t (List.mem_range.2 htl)
    rw [Bool.or_eq_true] at h1
    rcases h1 with h1 | h1
    · have := of_decide_eq_true h1
      omega
    · obtain ⟨o', ho', e, he, hb, hon⟩ := Region.waitsFor_spec h1
      obtain rfl : o' = ot := Option.some.inj (ho'.symm.trans hot)
      have := hall e he hb
      rw [hon, getD_both (inv.tail (t - 1) (by omega) (by omega))] at this
      cases this
def tail1B (ops : Array Oper) (n : Nat) : Bool :=
  Region.noSelect ops && (decide (0 < n) && (decide (n < ops.size) && (sinkFrom .any ops 1 n && (Region.chainB .any ops n && ((Region.ready .any ops (Array.replicate ops.size false)).contains 0 && (Region.free .any ops (Array.replicate ops.size false) 0 && Region.lexHead .any ops (ops.size - n) (n - 1) 1 ((Array.replicate ops.size false).setIfInBounds 0 true)))))))
/-- The same where nothing in the head waits for its first operation, which copies a value: it is taken first. -/
theorem qTail1 {id : Nat} {Q : Exit → Act → World → Prop} {a : Act} {w : World} {o : Oper} {l : List Oper} (n : Nat) (C : World → Prop) (v : Value) (hm : P.follows .mixedOrders = true) (hB : tail1B (o :: l).toArray (n + 1) = true)
    (hp : ∀ c a w, Q (.panic c) (a.put o.dst v) w → Q (.panic c) a w) (hy : Yields P (o :: l).toArray o v a) (hC : C w.drew)
    (h : QW P (o :: l).toArray C (fun a' => ∀ w', C w' → wpList P (o :: l).toArray Q (l.drop n) a' w') (l.take n) (a.put o.dst v)) : (Code.region id (o :: l).toArray true).wp P Q a w := by
  unfold tail1B at hB
  simp only [Bool.and_eq_true, decide_eq_true_eq] at hB
  obtain ⟨hns, -, hn, hsk, hch, hr0, hf0, hx⟩ := hB
  obtain ⟨A, hA⟩ : ∃ A, A = (o :: l).toArray := ⟨_, rfl⟩
  have hsz : A.size = l.length + 1 := by rw [hA]; simp
  have h0 : A[0]? = some o := by rw [hA]; rfl
  have hat : ∀ j, A[j + 1]? = l[j]? := fun j => by rw [hA]; simp
  rw [← hA] at hn hsk hch hr0 hf0 hx hy h hns ⊢
  have hnl : n < l.length := by omega
  have e1 : (l.take n).length = n := by rw [List.length_take]; omega
  have e2 : (l.drop n).length = A.size - (n + 1) := by rw [List.length_drop, hsz]; omega
  have hr0' : 0 ∈ Region.ready .any A (Array.replicate A.size false) := by simpa using hr0
  have inv0 : HeadInv .any A (n + 1) (Array.replicate A.size false) := by
    refine ⟨by simp, fun j oj _ hd => ?_, fun t _ ht => getD_in (by simpa using ht) (getD_replicate_false _ _)⟩
    rw [getD_replicate_false] at hd
    cases hd
  have inv := inv0.set hr0' (Nat.succ_pos n)
  have H := headQ_lex (P := P) (md := .any) (C := C) (g := A.size - (n + 1)) (p := 1) hns (late hsk hch hn) (l.take n) 1 _ (a.put o.dst v) (Nat.le_refl _) (fun j hj => by
    rw [e1] at hj
    rw [Nat.add_comm 1 j, hat j, List.getElem?_take, if_pos hj]) (by omega) inv (by rw [e1]; exact hx) h.out
  rw [e1] at H
  refine wp_region_any hm ?_
  have hfin := headQ_any (Q := Q) (g := A.size - (n + 1)) (fun d a' w' hw' hd => by
    have := wpAny_of_seq (md := .any) (Q' := Q) (l.drop n) (n + 1) d a' w' (fun j => by rw [show n + 1 + j = (n + j) + 1 by omega, hat, List.getElem?_drop]) (by rw [e2]; exact hd.1) (hd.2 w' hw')
    rw [e2] at this
    exact this) n _ _ w.drew hC H
  have := wpAny_take (md := .any) (Q := Q) (fuel := n + (A.size - (n + 1))) (w := w.drew) h0 hns hf0 hr0 hp hy hfin
  rw [show n + (A.size - (n + 1)) + 1 = A.size by omega] at this
  exact this
end
end Go.Proofs.Ytaldgjcbbjjceaa
/- Deeds as they are read: a slice of them, a row that the call owns; the deeds on a key, told by recursion; walks: a deed's operation. -/
namespace Go.Proofs.Ytaldgjcbbjjceaa
open Go.RowKit Go.Joins

/-- A deed: the place of its transaction in memory, the transaction, the operation's place. -/
structure DD where
  b : Nat
  o : Nat
  t : TX
  i : Nat
def dcell (d : DD) : List Value := [.pointer (some ⟨d.b, d.o, none⟩), .int .i64 (d.i : Int)]
theorem dcell_len (d : DD) : (dcell d).length = 2 := rfl
def dcells (L : List DD) : List Value := L.flatMap dcell
theorem dcells_len (L : List DD) : (dcells L).length = L.length * 2 := rows_len dcell 2 dcell_len L
theorem dcells_one (L : List DD) : ∀ u ∈ dcells L, u.oneCell' = true := by
  intro u hu
  obtain ⟨f, _, hf⟩ := List.mem_flatMap.1 hu
  unfold dcell at hf
  simp only [List.mem_cons, List.not_mem_nil, or_false] at hf
  rcases hf with rfl | rfl <;> rfl
/-- A deed lies at this place. -/
def DCell (w : World) (b off : Nat) (d : DD) : Prop := w.cell? ⟨b, off, none⟩ = some (.pointer (some ⟨d.b, d.o, none⟩)) ∧ w.cell? ⟨b, off + 1, none⟩ = some (.int .i64 (d.i : Int))
/-- The slice value v reads as the deeds L. -/
def DV (w : World) (v : Value) (L : List DD) : Prop :=
  ∃ A c, v = .slice A L.length c ∧ L.length ≤ c ∧ (c ≤ maxLen ∧ (A = Option.none → c = 0)) ∧ ∀ j (hj : j < L.length), ∃ b off, A = some ⟨b, off, none⟩ ∧ DCell w b (off + j * 2) L[j]
theorem DCell.gr {w w' : World} {b off : Nat} {f : DD} (h : DCell w b off f) (g : Gr w w') : DCell w' b off f := ⟨g.cell h.1, g.cell h.2⟩
theorem DV.gr {w w' : World} {v : Value} {L : List DD} (h : DV w v L) (g : Gr w w') : DV w' v L := by
  obtain ⟨A, c, hv, h1, h2, h3⟩ := h
  refine ⟨A, c, hv, h1, h2, fun j hj => ?_⟩
  obtain ⟨b, off, ha, hc⟩ := h3 j hj
  exact ⟨b, off, ha, hc.gr g⟩
theorem dv_form {w : World} {v : Value} {L : List DD} (h : DV w v L) : ∃ A c, v = .slice A L.length c := by
  obtain ⟨A, c, hv, _⟩ := h
  exact ⟨A, c, hv⟩
theorem DV.sl {w : World} {v : Value} {L : List DD} (h : DV w v L) : SL w 2 v L.length (dcells L) := by
  obtain ⟨A, c, hv, h1, h2, h3⟩ := h
  refine ⟨A, c, hv, h1, h2, dcells_len L, fun j u hj => ?_⟩
  obtain ⟨q, r, hq, hr, rfl, hu⟩ := rows_of dcell 2 dcell_len (by decide) L j u hj
  obtain ⟨b, off, ha, c0, c1⟩ := h3 q hq
  refine ⟨b, off, ha, ?_⟩
  rw [← Nat.add_assoc]
  match r, hr with
  | 0, _ => injection hu with hu; rw [← hu]; exact c0
  | 1, _ => injection hu with hu; rw [← hu]; exact c1
theorem DV.of_sl {w : World} {v : Value} {L : List DD} {n : Nat} (h : SL w 2 v n (dcells L)) : DV w v L := by
  obtain ⟨A, c, hv, h1, ⟨h2, h2'⟩, h3, h4⟩ := h
  have hn : L.length = n := by
    rw [dcells_len] at h3
    omega
  subst hn
  refine ⟨A, c, hv, h1, ⟨h2, h2'⟩, fun j hj => ?_⟩
  have at_ : ∀ r, r < 2 → (dcells L)[j * 2 + r]? = (dcell L[j])[r]? := fun r hr => rows_at dcell 2 dcell_len L j r hj hr
  obtain ⟨b, off, ha, c0⟩ := h4 (j * 2 + 0) _ (at_ 0 (by decide))
  obtain ⟨b', off', ha', c1⟩ := h4 (j * 2 + 1) _ (at_ 1 (by decide))
  rw [ha] at ha'
  injection ha' with ha'
  injection ha' with e1 e2
  subst e1 e2
  refine ⟨b, off, ha, c0, ?_⟩
  rw [Nat.add_assoc]
  exact c1
/-- The call owns the slice v from block B on: it reads as these deeds. -/
def DO (w : World) (B : Nat) (v : Value) (L : List DD) : Prop := w.ownsRow B 96 2 v L.length (dcells L)
theorem DO.gr {w w' : World} {B : Nat} {v : Value} {L : List DD} (h : DO w B v L) (g : Gr w w') : DO w' B v L := own_gr h g
theorem DO.le {w : World} {B B' : Nat} {v : Value} {L : List DD} (h : DO w B v L) (hb : B' ≤ B) : DO w B' v L := own_le h hb
theorem DO.nil (w : World) (B : Nat) : DO w B (.slice none 0 0) [] := World.ownsRow_nil w B _ _
theorem DO.dv {w : World} {B : Nat} {v : Value} {L : List DD} (h : DO w B v L) : DV w v L := DV.of_sl (own_sl h)
theorem infoDeed : (Try.prog.info? 96).map (fun i => (i.zero, i.size, i.bytes)) = some (some (.agg #[.pointer none, .int .i64 0]), 2, 16) := by kernel_rfl
/-- append of deeds to a row of the call's own. -/
theorem wpList_push_dd {W w0 : World} {ops : Array Oper} {rest : List Oper} {o : Oper} {a : Act} {Q : Exit → Act → World → Prop} (hw : Region.wanted o (yielded ops a.tmps) = true) (s x : Operand)
    (ho : o.op = .call { callee := .builtin .append, args := #[s, x], argTypes := #[67, 67] })
    (v vx : Value) (L M : List DD) (n m : Nat) (hn : n = L.length) (hm : m = M.length) (hs : a.eval s = v) (hown : DO W w0.heap.size v L) (hx : a.eval x = vx) (hxv : DV W vx M) (hlen : (n + m) * 16 ≤ 140737488355328) (hg : Gr w0 W)
    (h : ∀ A' c' w', DO w' w0.heap.size (.slice A' (n + m) c') (L ++ M) → Gr w0 w' → wpList Try.prog ops Q rest (a.put o.dst (.slice A' (n + m) c')) w') :
    wpList Try.prog ops Q (o :: rest) a W := by
  subst hn hm
  obtain ⟨i0, hi, hz0, hz1, hz2⟩ := info_parts infoDeed
  have hsz := hg.size
  refine Go.BigFrame.wpList_want hw (fun K hK => ?_)
  refine wp_append_sl W s x 67 ho w0.heap.size 96 i0 _ 2 16 Try.underlying67 hi hz0 hz1 hz2 rfl (by decide) v L.length (dcells L) hs hown vx M.length (dcells M) hx
    hxv.sl (dcells_one M) (by unfold maxLen; omega) hlen hsz (L.length + M.length) rfl ?_
  intro A' c' w' hown' hgr _
  refine hK _ _ (h A' c' w' ?_ (gr_of_grown hg hown hgr hsz))
  unfold DO
  rw [List.length_append]
  unfold dcells at hown' ⊢
  rw [List.flatMap_append]
  exact hown'
theorem dv_one (w : World) (d : DD) (b : Nat) (hb : b = w.heap.size) : DV (w.alloc (.cells #[.pointer (some ⟨d.b, d.o, none⟩), .int .i64 (d.i : Int)] 96)) (.slice (some ⟨b, 0, none⟩) 1 1) [d] := by
  subst hb
  refine ⟨_, 1, rfl, Nat.le_refl _, ⟨by decide, fun h => by cases h⟩, fun j hj => ⟨w.heap.size, 0, rfl, ?_⟩⟩
  have hj0 : j = 0 := by simpa using hj
  subst hj0
  refine ⟨?_, ?_⟩ <;> (rw [World.cell?_alloc_mark]; rfl)
/-- What a deed points to lies there. -/
def DX (w : World) (d : DD) : Prop := XCell w d.b d.o d.t ∧ d.i < d.t.ops.length
theorem DX.gr {w w' : World} {d : DD} (h : DX w d) (g : Gr w w') : DX w' d := ⟨h.1.gr g, h.2⟩
def DXs (w : World) (L : List DD) : Prop := ∀ d ∈ L, DX w d
theorem DXs.gr {w w' : World} {L : List DD} (h : DXs w L) (g : Gr w w') : DXs w' L := fun d hd => (h d hd).gr g
/-- The deed's operation. -/
def DD.op (d : DD) : TO := d.t.ops.getD d.i ⟨0, ⟨#[]⟩, ⟨#[]⟩, 0⟩
theorem DX.op {w : World} {d : DD} (h : DX w d) : d.op = d.t.ops[d.i]'h.2 := by
  unfold DD.op
  rw [List.getD_eq_getElem?_getD, List.getElem?_eq_getElem h.2]
  rfl
/-- The operations of a transaction on a key, the first j places. -/
def dTx (key : ByteArray) (t : TX) : Nat → List (TX × Nat)
  | 0 => []
  | j + 1 => dTx key t j ++ (match t.ops[j]? with | some o => if eqS o.key key = true then [(t, j)] else [] | none => [])
/-- Of one log the first d transactions. -/
def dLog (key : ByteArray) (l : LG) (i : Nat) : Nat → List (TX × Nat)
  | 0 => []
  | d + 1 => dLog key l i d ++ (match (l i)[d]? with | some t => dTx key t t.ops.length | none => [])
/-- Of the first i logs. -/
def dAll (key : ByteArray) (l : LG) (v : Nat → Nat) : Nat → List (TX × Nat)
  | 0 => []
  | i + 1 => dAll key l v i ++ dLog key l i (v i)
def dsh (L : List DD) : List (TX × Nat) := L.map fun d => (d.t, d.i)
theorem dTx_len (key : ByteArray) (t : TX) : ∀ j, (dTx key t j).length ≤ j
  | 0 => Nat.le_refl _
  | j + 1 => by
    have := dTx_len key t j
    unfold dTx
    rw [List.length_append]
    split
    · split <;> simp <;> omega
    · simp; omega
theorem dLog_len (key : ByteArray) (l : LG) (i : Nat) (h : ∀ t ∈ l i, t.ops.length ≤ 8) : ∀ d, (dLog key l i d).length ≤ d * 8
  | 0 => Nat.le_refl _
  | d + 1 => by
    have := dLog_len key l i h d
    unfold dLog
    rw [List.length_append]
    split
    · next t ht =>
      have h1 := dTx_len key t t.ops.length
      have h2 := h t (List.mem_of_getElem? ht)
      omega
    · simp; omega
theorem dAll_len (key : ByteArray) (l : LG) (v : Nat → Nat) (h : ∀ i t, i < 8 → t ∈ l i → t.ops.length ≤ 8) (hv : ∀ i, i < 8 → v i ≤ 1024) : ∀ i, i ≤ 8 → (dAll key l v i).length ≤ i * 8192
  | 0, _ => Nat.le_refl _
  | i + 1, hi => by
    have h1 := dAll_len key l v h hv i (by omega)
    have h2 := dLog_len key l i (fun t ht => h i t (by omega) ht) (v i)
    have h3 := hv i (by omega)
    unfold dAll
    rw [List.length_append]
    omega
theorem dTx_yes {key : ByteArray} {t : TX} {j : Nat} {o : TO} (h : t.ops[j]? = some o) (hk : eqS o.key key = true) : dTx key t (j + 1) = dTx key t j ++ [(t, j)] := by
  show dTx key t j ++ _ = _
  rw [h]
  simp only [hk, if_true]
theorem dTx_no {key : ByteArray} {t : TX} {j : Nat} {o : TO} (h : t.ops[j]? = some o) (hk : eqS o.key key = false) : dTx key t (j + 1) = dTx key t j := by
  show dTx key t j ++ _ = _
  rw [h]
  simp [hk]
theorem dLog_at {key : ByteArray} {l : LG} {i d : Nat} {t : TX} (h : (l i)[d]? = some t) : dLog key l i (d + 1) = dLog key l i d ++ dTx key t t.ops.length := by
  show dLog key l i d ++ _ = _
  rw [h]
abbrev opv (o : TO) : Array Value := #[.int .i64 o.kind, .string o.key, .string o.elem, .int .i64 o.n]

set_option maxRecDepth 100000 in
set_option maxHeartbeats 2000000 in
theorem dop_any (d : DD) (w : World) (h : DX w d) :
    Calls Try.prog 81 #[.agg #[.pointer (some ⟨d.b, d.o, none⟩), .int .i64 (d.i : Int)]] w fun e w' => e = .returned (.agg (opv d.op)) ∧ Gr w w' := by
  obtain ⟨W, hW, hg, h1, h2⟩ : ∃ W, W = (w.alloc (.cells #[.pointer (some ⟨d.b, d.o, none⟩), .int .i64 (d.i : Int)] 96)).alloc (.cells #[.int .i64 0, .string ⟨#[]⟩, .string ⟨#[]⟩, .int .i64 0] 41) ∧ Gr w W ∧ W.heap[w.heap.size]? = some (.cells #[.pointer (some ⟨d.b, d.o, none⟩), .int .i64 (d.i : Int)] 96 (0, 0)) ∧ W.heap[w.heap.size + 1]? = some (.cells #[.int .i64 0, .string ⟨#[]⟩, .string ⟨#[]⟩, .int .i64 0] 41 (0, 0)) := by
    refine ⟨_, rfl, ((Gr.refl w).alloc _).alloc _, ?_, ?_⟩ <;> (simp only [World.alloc, Array.getElem?_push, Array.size_push]; simp)
  have hop := h.op
  obtain ⟨⟨v, hv, x0, x1, x2, x3, x4, x5, x6, x7, x8, x9, x10, x11⟩, hi⟩ := h.gr hg
  obtain ⟨A, c, rfl, hnc, -, hat⟩ := hv
  obtain ⟨b, off, rfl, c0, c1, c2, c3⟩ := hat d.i hi
  rw [← hop] at c0 c1 c2 c3
  obtain ⟨o, ho⟩ : ∃ o, o = d.op := ⟨_, rfl⟩
  rw [← ho] at c0 c1 c2 c3 ⊢
  obtain ⟨db, hdb⟩ : ∃ x, x = d.b := ⟨_, rfl⟩
  obtain ⟨dk, hdk⟩ : ∃ x, x = d.o := ⟨_, rfl⟩
  obtain ⟨di, hdi⟩ : ∃ x, x = d.i := ⟨_, rfl⟩
  obtain ⟨n, hn⟩ : ∃ x, x = d.t.ops.length := ⟨_, rfl⟩
  rw [← hdb, ← hdk, ← hn] at x11
  rw [← hdb, ← hdk, ← hdi] at h1 hW
  rw [← hdi] at c0 c1 c2 c3
  rw [← hdb, ← hdk, ← hdi]
  have hi1 : (di : Int) < (n : Int) := by omega
  have hi0 : (0 : Int) ≤ (di : Int) := by omega
  have q0 : W.cell? ⟨w.heap.size, 0, none⟩ = some (.pointer (some ⟨db, dk, none⟩)) := by rw [cell_of_block h1]; rfl
  have q1 : W.cell? ⟨w.heap.size, 1, none⟩ = some (.int .i64 (di : Int)) := by rw [cell_of_block h1]; rfl
  have z0 : W.cell? ⟨w.heap.size + 1, 0, none⟩ = some (.int .i64 0) := by rw [cell_of_block h2]; rfl
  have z1 : W.cell? ⟨w.heap.size + 1, 1, none⟩ = some (.string ⟨#[]⟩) := by rw [cell_of_block h2]; rfl
  have z2 : W.cell? ⟨w.heap.size + 1, 2, none⟩ = some (.string ⟨#[]⟩) := by rw [cell_of_block h2]; rfl
  have z3 : W.cell? ⟨w.heap.size + 1, 3, none⟩ = some (.int .i64 0) := by rw [cell_of_block h2]; rfl
  have k0 := unfrozen_of_block h2 0
  have k1 := unfrozen_of_block h2 1
  have k2 := unfrozen_of_block h2 2
  have k3 := unfrozen_of_block h2 3
  have HG := Lib.hid hg
  have HQ := Lib.hid (And.intro q0 q1)
  have HX := Lib.hid (And.intro x11 (And.intro c0 (And.intro c1 (And.intro c2 c3))))
  have HZ := Lib.hid (And.intro z0 (And.intro z1 (And.intro z2 z3)))
  have HK := Lib.hid h2
  clear hg h1 h2 hop hi hnc hat ho hdb hdk hdi hn x0 x1 x2 x3 x4 x5 x6 x7 x8 x9 x10 x11 c0 c1 c2 c3 q0 q1 z0 z1 z2 z3 k0 k1 k2 k3 h
  go_enter Try.func81, Try.ntmps81
  go_upto_region 1 with (fail)
  rw [← hW]
  clear hW
  refine qTail 9 (fun w' => w'.cell? ⟨w.heap.size, 0, none⟩ = some (.pointer (some ⟨db, dk, none⟩)) ∧ w'.cell? ⟨w.heap.size, 1, none⟩ = some (.int .i64 (di : Int)) ∧ w'.cell? ⟨db, dk + 11, none⟩ = some (.slice (some ⟨b, off, none⟩) n c) ∧ w'.cell? ⟨b, off + di * 4, none⟩ = some (.int .i64 o.kind) ∧ w'.cell? ⟨b, off + di * 4 + 1, none⟩ = some (.string o.key) ∧ w'.cell? ⟨b, off + di * 4 + 2, none⟩ = some (.string o.elem) ∧ w'.cell? ⟨b, off + di * 4 + 3, none⟩ = some (.int .i64 o.n) ∧ Gr W w') (by kernel_rfl) (by kernel_rfl) ⟨(Gr.refl _).drew.cell HQ.out.1, (Gr.refl _).drew.cell HQ.out.2, (Gr.refl _).drew.cell HX.out.1, (Gr.refl _).drew.cell HX.out.2.1, (Gr.refl _).drew.cell HX.out.2.2.1, (Gr.refl _).drew.cell HX.out.2.2.2.1, (Gr.refl _).drew.cell HX.out.2.2.2.2, (Gr.refl _).drew⟩ ?_
  simp only [List.take_succ_cons, List.take_zero, List.drop_succ_cons, List.drop_zero]
  iterate 9
    refine qTake (by kernel_rfl) ?_
    apply Exists.intro
    refine ⟨fun wq hq => ?_, ?_⟩
    · go_light
      obtain ⟨e0, e1, e2, e3, e4, e5, e6, -⟩ := hq
      go_simp
      try with_reducible rfl
      done
    try simp only [Act.put, List.setIfInBounds_toArray, List.set_cons_zero, List.set_cons_succ]
  refine qNil ?_
  intro w3 hC
  have HG3 := Lib.hid hC.2.2.2.2.2.2.2
  clear hC
  have z0 := HG3.out.cell HZ.out.1
  have z1 := HG3.out.cell HZ.out.2.1
  have z2 := HG3.out.cell HZ.out.2.2.1
  have z3 := HG3.out.cell HZ.out.2.2.2
  have k0 := unfrozen_of_block (gr_obj HG3.out HK.out) 0
  have k1 := unfrozen_of_block (gr_obj HG3.out HK.out) 1
  have k2 := unfrozen_of_block (gr_obj HG3.out HK.out) 2
  have k3 := unfrozen_of_block (gr_obj HG3.out HK.out) 3
  go_wp2_with fail
  refine bodyPost_ret (v := .agg (opv o)) (by simp [results, Try.results81, go_sem, *]) rfl ⟨rfl, ?_⟩
  show Gr w ((((w3.setCell _ _).setCell _ _).setCell _ _).setCell _ _)
  exact ((((HG.out.trans HG3.out).setCell (Nat.le_succ _) _).setCell (Nat.le_succ _) _).setCell (Nat.le_succ _) _).setCell (Nat.le_succ _) _
end Go.Proofs.Ytaldgjcbbjjceaa
/- Walks: the deeds on a key. -/
namespace Go.Proofs.Ytaldgjcbbjjceaa
open Go.RowKit Go.Joins

/-- What the rounds of deedsOn leave. -/
structure DsR (w W : World) (L : List (TX × Nat)) (s : Value) (D : List DD) (wr : World) : Prop where
  own : DO wr W.heap.size s D
  sh : dsh D = L
  xs : DXs w D
  gr : Gr W wr
theorem DsR.next {w W : World} {L : List (TX × Nat)} {s : Value} {D : List DD} {wr w' : World} (h : DsR w W L s D wr) (g : Gr wr w') : DsR w W L s D w' := ⟨h.own.gr g, h.sh, h.xs, h.gr.trans g⟩
theorem opbox (w : World) (o : TO) : ∃ W, W = w.alloc (.cells (opv o) 41) ∧ Gr w W ∧ TCell W w.heap.size 0 o := by
  refine ⟨_, rfl, (Gr.refl w).alloc _, ?_⟩
  unfold TCell
  refine ⟨?_, ?_, ?_, ?_⟩ <;> (rw [World.cell?_alloc_at _ _ _ _ rfl]; rfl)
theorem slice_dd {w : World} {B : Nat} {s : Value} {D : List DD} (h : DO w B s D) : ∃ A c, s = .slice A D.length c := dv_form h.dv

set_option maxRecDepth 100000 in
set_option maxHeartbeats 4000000 in
theorem deeds_any (u : Nat → S3) (l : LG) (v : Nat → Nat) (key : ByteArray) (w : World) (h : LV w u l) (hv : leqB v (sizeV l) = true) (hops : ∀ i t, i < 8 → t ∈ l i → t.ops.length ≤ 8) (hlen : ∀ i, i < 8 → v i ≤ 1024) :
    Calls Try.prog 32 #[.agg (lcells u), .agg (vcells v), .string key] w fun e w' => ∃ s D, e = .returned s ∧ DsR w w (dAll key l v 8) s D w' := by
  obtain ⟨W, hW, hg, hsz, hL, hV⟩ := boxesLV u v w
  have HV := Lib.hid hV
  have HG := Lib.hid hg
  have HX := Lib.hid (h.gr hg)
  have HX0 := Lib.hid h
  have HVS := Lib.hid hv
  have HOP := Lib.hid hops
  have HVL := Lib.hid hlen
  have HDA := Lib.hid (fun i (hi : i ≤ 8) => dAll_len key l v hops hlen i hi)
  have HDL := Lib.hid (fun i (hi : i < 8) d => dLog_len key l i (fun t ht => hops i t hi ht) d)
  have HDT := Lib.hid (fun t j => dTx_len key t j)
  obtain ⟨l0, l1, l2, l3, l4, l5, l6, l7⟩ := hL.all
  clear hL hV hg hsz h hv hops hlen
  go_enter Try.func32, Try.ntmps32
  go_upto_region 1 with (fail)
  rw [← hW]
  clear hW
  go_wp2_with fail
  clear l0 l1 l2 l3 l4 l5 l6 l7
  go_loopw [7, 15] (fun s i wr => ∃ k : Nat, k ≤ 8 ∧ i = .int .i64 k ∧ Hid (∃ D, DsR w W (dAll key l v k) s D wr)) (fun _ i _ => 8 - (intOf i).toNat)
  case atStart => exact ⟨0, by decide, rfl, Lib.hid ⟨[], ⟨DO.nil _ _, rfl, fun _ h => (by cases h), Gr.refl _⟩⟩⟩
  case round =>
    obtain ⟨k, hk, rfl, hst⟩ := hrel
    rename World => wo
    by_cases hlt : k < 8
    · have hk0 : (0 : Int) ≤ (k : Int) := Int.natCast_nonneg _
      have hk8 : (k : Int) < 8 := by omega
      have hix := fun W => run_index_logs u hlt W
      obtain ⟨D0, hd0⟩ := hst.out
      have hc := (HV.out.gr hd0.gr).at hlt
      have hvl : v k ≤ (l k).length := lq HVS.out hlt
      obtain ⟨Ak, ck, hxv, hnc, -, hcell⟩ := HX.out k hlt
      injection hxv with e1 e2 e3
      obtain ⟨A, hA⟩ : ∃ A, A = (u k).a := ⟨_, rfl⟩
      obtain ⟨n, hn⟩ : ∃ n, n = (u k).n := ⟨_, rfl⟩
      obtain ⟨c, hcc⟩ : ∃ c, c = (u k).c := ⟨_, rfl⟩
      obtain ⟨m, hm⟩ : ∃ m, m = v k := ⟨_, rfl⟩
      rw [← hA, ← hn, ← hcc] at hix
      rw [← hm] at hc hvl
      have hnl : n = (l k).length := by rw [hn, e2]
      have hmc : m ≤ c := by rw [hcc, e3]; omega
      have hsl := fun W => slice_txs A (n := n) (k := m) (c := c) hmc W
      have HA := Lib.hid hA
      have HN := Lib.hid hnl
      have HM := Lib.hid hm
      have HML := Lib.hid hvl
      have HC := Lib.hid hc
      have HD0 := Lib.hid hd0
      clear hA hn hcc hm hnl hmc e1 e2 e3 hnc hcell hd0 hst hvl
      go_wp2_with fail
      clear hix hsl
      go_loopw [7, 25] (fun s i wr => ∃ d : Nat, d ≤ m ∧ i = .int .i64 d ∧ Hid (∃ D, DsR w W (dAll key l v k ++ dLog key l k d) s D wr)) (fun _ i _ => m - (intOf i).toNat)
      case atStart => exact ⟨0, Nat.zero_le _, rfl, Lib.hid ⟨D0, ⟨HD0.out.own, by rw [HD0.out.sh]; exact (List.append_nil _).symm, HD0.out.xs, HD0.out.gr⟩⟩⟩
      case round =>
        obtain ⟨d, hd, rfl, hst⟩ := hrel
        rename World => wi
        by_cases hdm : d < m
        · have hdl : d < (l k).length := by have := HML.out; omega
          have hd0 : (0 : Int) ≤ (d : Int) := Int.natCast_nonneg _
          have hdn : (d : Int) < (n : Int) := by have := HN.out; omega
          have hdm1 : (d : Int) < (m : Int) := by omega
          obtain ⟨D1, hd1⟩ := hst.out
          obtain ⟨b, off, ha, hxc⟩ := HX0.out.cell hlt hdl
          rw [← HA.out] at ha
          subst ha
          obtain ⟨t, ht⟩ : ∃ t, t = (l k)[d] := ⟨_, rfl⟩
          rw [← ht] at hxc
          have HT := Lib.hid (show (l k)[d]? = some t by rw [ht]; exact List.getElem?_eq_getElem hdl)
          have hto : t.ops.length ≤ 8 := HOP.out k t hlt (by rw [ht]; exact List.getElem_mem hdl)
          have HXC := Lib.hid hxc
          obtain ⟨vx, hvx, x0, x1, x2, x3, x4, x5, x6, x7, x8, x9, x10, x11⟩ := hxc
          obtain ⟨Ax, cx, rfl, hxn, -, hxat⟩ := hvx
          obtain ⟨nx, hnx⟩ : ∃ n, n = t.ops.length := ⟨_, rfl⟩
          rw [← hnx] at x11
          have x11 := (HG.out.trans hd1.gr).cell x11
          have HNX := Lib.hid hnx
          have HXA : Hid (∀ j (hj : j < t.ops.length), ∃ b off, Ax = some ⟨b, off, none⟩ ∧ TCell w b (off + j * 4) t.ops[j]) := Lib.hid hxat
          have HD1 := Lib.hid hd1
          have hnx8 : nx ≤ 8 := by omega
          clear x0 x1 x2 x3 x4 x5 x6 x7 x8 x9 x10 hxn hxat hnx hd1 hst ht hto
          go_wp2_with fail
          go_loopw [7, 36] (fun s i wr => ∃ j : Nat, j ≤ nx ∧ i = .int .i64 j ∧ Hid (∃ D, DsR w W (dAll key l v k ++ dLog key l k d ++ dTx key t j) s D wr)) (fun _ i _ => nx - (intOf i).toNat)
          case atStart => exact ⟨0, Nat.zero_le _, rfl, Lib.hid ⟨D1, ⟨HD1.out.own, by rw [HD1.out.sh]; exact (List.append_nil _).symm, HD1.out.xs, HD1.out.gr⟩⟩⟩
          case round =>
            clear x11
            obtain ⟨j, hj, rfl, hst⟩ := hrel
            rename World => wr
            by_cases hjn : j < nx
            · have hjl : j < t.ops.length := by rw [← HNX.out]; exact hjn
              have hj0 : (0 : Int) ≤ (j : Int) := Int.natCast_nonneg _
              have hjn1 : (j : Int) < (nx : Int) := by omega
              obtain ⟨D2, hd2⟩ := hst.out
              obtain ⟨bo, oo, rfl, hoc⟩ := HXA.out j hjl
              obtain ⟨o, ho⟩ : ∃ o, o = t.ops[j] := ⟨_, rfl⟩
              rw [← ho] at hoc
              have HO := Lib.hid (show t.ops[j]? = some o by rw [ho]; exact List.getElem?_eq_getElem hjl)
              obtain ⟨o0, o1, o2, o3⟩ := hoc.gr (HG.out.trans hd2.gr)
              obtain ⟨W5, hW5, hg5, hx5⟩ := opbox wr o
              obtain ⟨A2, c2, hs2⟩ := slice_dd hd2.own
              subst hs2
              have hlen2 : D2.length ≤ 8 * 8192 + 8192 + 8 := by
                have e1 : D2.length = (dsh D2).length := (List.length_map _).symm
                rw [e1, hd2.sh, List.length_append, List.length_append]
                have := HDA.out k (by omega)
                have := HDL.out k hlt d
                have := HDT.out t j
                have := HVL.out k hlt
                have := HM.out
                omega
              have hln : (D2.length + 1) * 16 ≤ 140737488355328 := by omega
              obtain ⟨n2, hn2⟩ : ∃ n, n = D2.length := ⟨_, rfl⟩
              rw [← hn2] at hln
              obtain ⟨q, hq⟩ : ∃ q, q = eqS o.key key := ⟨_, rfl⟩
              have t0 : (o.key.toList == key.toList) = q := hq.symm
              have HQ := Lib.hid hq
              have HD2 := Lib.hid (hd2.next hg5)
              have HN2 := Lib.hid hn2
              have HX5 := Lib.hid hx5
              have HB5 := Lib.hid (show wr.heap.size < W5.heap.size by rw [hW5]; simp)
              clear ho hoc hd2 hg5 hst hn2 hq hlen2
              go_upto_region 12 with (fail)
              rw [← hW5]
              clear o0 o1 o2 o3 hW5
              obtain ⟨y0, y1, y2, y3⟩ := hx5
              rcases q with _ | _
              · have HS : Hid (∃ D, DsR w W (dAll key l v k ++ dLog key l k d ++ dTx key t (j + 1)) (.slice A2 D2.length c2) D W5) := Lib.hid ⟨D2, by rw [dTx_no HO.out HQ.out.symm]; exact HD2.out⟩
                rw [← HN2.out] at HS ⊢
                go_wp2_with fail
                go_roundw
                case measure => simp [intOf]; omega
                case rel => exact ⟨j + 1, by omega, by go_num, HS⟩
              · have HDD : Hid (DX w ⟨b, off + d * 12, t, j⟩) := Lib.hid ⟨HXC.out, hjl⟩
                have HDO : Hid (DO (W5.alloc (.cells #[.pointer (some ⟨b, off + d * 12, none⟩), .int .i64 (j : Int)] 96)) W.heap.size (.slice A2 n2 c2) D2) := Lib.hid (by rw [HN2.out]; exact HD2.out.own.gr (gr_box _ _))
                rw [← HN2.out]
                clear hlt
                go_upto_region 14 with (at_builtin; refine wpList_push_dd (w0 := W) rfl (.tmp 45) (.tmp 49) rfl (.slice A2 n2 c2) (.slice (some ⟨W5.heap.size, 0, none⟩) 1 1) D2 [⟨b, off + d * 12, t, j⟩] n2 1 HN2.out rfl rfl HDO.out rfl (dv_one W5 ⟨b, off + d * 12, t, j⟩ _ rfl) hln (HD2.out.gr.alloc _) ?_; intro A9 c9 w9 hown9 hg9; have HO9 := Lib.hid hown9; have HG9 := Lib.hid hg9; clear hown9 hg9)
                have HS : Hid (∃ D, DsR w W (dAll key l v k ++ dLog key l k d ++ dTx key t (j + 1)) (.slice A9 (n2 + 1) c9) D w9) := Lib.hid ⟨D2 ++ [⟨b, off + d * 12, t, j⟩], ⟨HO9.out, by rw [dTx_yes HO.out HQ.out.symm, ← List.append_assoc, ← HD2.out.sh]; unfold dsh; rw [List.map_append]; rfl, fun x hx => by
                  rcases List.mem_append.1 hx with hx | hx
                  · exact HD2.out.xs x hx
                  · simp only [List.mem_singleton] at hx
                    subst hx
                    exact HDD.out, HG9.out⟩⟩
                go_wp2_with fail
                go_roundw
                case measure => simp [intOf]; omega
                case rel => exact ⟨j + 1, by omega, by go_num, HS⟩
            · obtain rfl : j = nx := by omega
              obtain ⟨D2, hd2⟩ := hst.out
              have HS : Hid (∃ D, DsR w W (dAll key l v k ++ dLog key l k (d + 1)) u7 D wr) := Lib.hid ⟨D2, ⟨hd2.own, by rw [dLog_at HT.out, ← HNX.out, ← List.append_assoc]; exact hd2.sh, hd2.xs, hd2.gr⟩⟩
              have hmb : m ≤ 1024 := by rw [HM.out]; exact HVL.out k hlt
              clear hd2 hst
              go_wp2_with fail
              go_roundw
              case measure => simp [intOf]; omega
              case rel => exact ⟨d + 1, by omega, by go_num, HS⟩
        · obtain rfl : d = m := by omega
          obtain ⟨D2, hd2⟩ := hst.out
          have HS : Hid (∃ D, DsR w W (dAll key l v (k + 1)) u7 D wi) := Lib.hid ⟨D2, ⟨hd2.own, by rw [hd2.sh, HM.out]; rfl, hd2.xs, hd2.gr⟩⟩
          clear hd2 hst
          go_wp2_with fail
          go_roundw
          case measure => simp [intOf]; omega
          case rel => exact ⟨k + 1, by omega, by go_num, HS⟩
    · obtain rfl : k = 8 := by omega
      obtain ⟨D2, hd2⟩ := hst.out
      have HS : Hid (∃ D, DsR w w (dAll key l v 8) u7 D wo) := Lib.hid ⟨D2, ⟨hd2.own.le HG.out.size, hd2.sh, hd2.xs, HG.out.trans hd2.gr⟩⟩
      clear hd2 hst
      go_wp2_with fail
      go_ret
      exact ⟨_, _, rfl, HS.out.choose_spec⟩
end Go.Proofs.Ytaldgjcbbjjceaa
