/- The library's Clone of a string, by the shelf's contract (proved once, over any program), at this program's numbers. Walk: strings.Clone answers the string. A region that draws its order: its first operations read cells of a class of worlds, and its calls answer one value and leave the class; the others stand in one order behind all of these. It names no program. Rows of transactions; walks: slices.Clone of operations and of transactions; the program's Copy of a transaction. Walks: the program's Copy of a transaction. Walks: the program's Copy of logs. -/
import Derived.Test.YtnjmgknicffcbaaGreatDoorChecked
import Derived.Shelf.Strconv.Clone
import Derived.WalkKit
import Derived.ProofKit
import Derived.Test.YtnjmgknicffcbaaGreatDoorZr01
import Derived.Lib.Hide
import Derived.Lib.Strings
import Derived.Test.YtnjmgknicffcbaaGreatDoorZr02
import Derived.StillTail
import Derived.Test.YtnjmgknicffcbaaGreatDoorZr11
import Derived.Lib.SliceRun
import Derived.Deep.RegionHeld3
namespace Go.Proofs.YtnjmgknicffcbaaGreatDoor
open Go.Shelf Go.RowKit
def lays316_ren : Go.Shelf.Ren := ⟨fun | 316 => 155 | n => n, fun | 0 => 0 | 3 => 3 | 4 => 4 | 5 => 5 | 9 => 9 | 37 => 81 | 127 => 152 | n => n, fun | n => n⟩
theorem lays316 : Go.Proofs.LaysM.n316 Tryz.prog lays316_ren := {
  mixed := by kernel_rfl
  f316 := Tryz.func155.trans (congrArg some (by kernel_rfl))
  t0 := Tryz.underlying0
  a0 := Tryz.isAgg0
  z0 := Tryz.sizeOf0
  v0 := Tryz.zeroValue0
  t3 := Tryz.underlying3
  a3 := Tryz.isAgg3
  z3 := Tryz.sizeOf3
  v3 := Tryz.zeroValue3
  t4 := Tryz.underlying4
  a4 := Tryz.isAgg4
  z4 := Tryz.sizeOf4
  v4 := Tryz.zeroValue4
  t9 := Tryz.underlying9
  a9 := Tryz.isAgg9
  z9 := Tryz.sizeOf9
  v9 := Tryz.zeroValue9
  t37 := Tryz.underlying81
  a37 := Tryz.isAgg81
  z37 := Tryz.sizeOf81
  v37 := Tryz.zeroValue81
  t127 := Tryz.underlying152
  a127 := Tryz.isAgg152
  z127 := Tryz.sizeOf152
  v127 := Tryz.zeroValue152
  t5 := Tryz.underlying5
  a5 := Tryz.isAgg5
  z5 := Tryz.sizeOf5
  v5 := Tryz.zeroValue5
  i0 := by kernel_rfl
  i3 := by kernel_rfl
  i4 := by kernel_rfl
  i5 := by kernel_rfl
  i9 := by kernel_rfl
  i37 := by kernel_rfl
  i127 := by kernel_rfl }
theorem clone_lib (s : ByteArray) (w : World) (hlim : s.size ≤ 281474976710656) :
    Calls Tryz.prog 155 #[.string s] w fun e w' => e = .returned (.string s) ∧ Below w.heap.size w w' := Any.stringslite_Clone lays316 s w hlim
end Go.Proofs.YtnjmgknicffcbaaGreatDoor
namespace Go.Proofs.YtnjmgknicffcbaaGreatDoor
open Go.RowKit

theorem clone_any (s : ByteArray) (hs : s.size ≤ 281474976710656) (w : World) :
    Calls Tryz.prog 129 #[.string s] w fun e w' => e = .returned (.string s) ∧ Gr w w' := by
  have H := Lib.hid (fun w => clone_lib s w hs)
  go_enter Tryz.func129, Tryz.ntmps129
  go_wp2_with fail
  refine (H.out _).mono ?_
  rintro e w1 ⟨rfl, g⟩
  go_wp2
  go_ret
  exact ⟨rfl, g⟩

end Go.Proofs.YtnjmgknicffcbaaGreatDoor
namespace Go.Proofs.YtnjmgknicffcbaaGreatDoor

section
variable {P : Program} {ops : Array Oper} {md : Region.Mode} {C : World → Prop}
/-- Whatever may come up is of the head and quiet, f times; then L. -/
def headQ (P : Program) (md : Region.Mode) (ops : Array Oper) (C : World → Prop) (n : Nat) (L : Array Bool → Act → Prop) : Nat → Array Bool → Act → Prop
  | 0, done, a => L done a
  | f + 1, done, a => Region.ready md ops done ≠ [] ∧ ∀ i, i ∈ Region.ready md ops done → i < n ∧ qOp P ops C i (headQ P md ops C n L f (done.setIfInBounds i true)) a

theorem headQ_any {n g : Nat} {L : Array Bool → Act → Prop} {Q : Exit → Act → World → Prop} (hL : ∀ done a w, C w → L done a → wpAny P md ops Q g done a w) (f : Nat) :
    ∀ (done : Array Bool) (a : Act) (w : World), C w → headQ P md ops C n L f done a → wpAny P md ops Q (f + g) done a w := by
  induction f with
  | zero => intro done a w hw h; rw [Nat.zero_add]; exact hL done a w hw h
  | succ f ih =>
    intro done a w hw h
    have e : f + 1 + g = (f + g) + 1 := by omega
    rw [e]
    refine ⟨fun h0 => (h.1 h0).elim, fun i hi => ?_⟩
    exact wpOp_of_qOp hw (fun a' w' hw' h' => ih _ a' w' hw' h') (h.2 i hi).2

theorem headQ_first {n i : Nat} {o : Oper} {v : Value} {L : Array Bool → Act → Prop} (ho : ops[i]? = some o) (hns : ∀ (j : Nat) (o : Oper) cs b, ops[j]? = some o → o.op ≠ .select cs b)
    (hwt : ∀ done, HeadInv md ops n done → done.getD i true = false → ∀ t, n ≤ t → t ∉ Region.ready md ops done)
    (hlast : ∀ done a, L done a → ∀ j ∈ Region.ready md ops done, n ≤ j) (f : Nat) :
    ∀ (done : Array Bool) (a : Act), HeadInv md ops n done →
      (∀ j oj, ops[j]? = some oj → j ≠ i → done.getD j true = false → (∀ e ∈ oj.after, Region.binds md e = true → e.on ≠ i) → o.apart ops oj = true) →
      i ∈ Region.ready md ops done → YieldsIn P ops C o v a → headQ P md ops C n L f (done.setIfInBounds i true) (a.put o.dst v) → headQ P md ops C n L (f + 1) done a := by
  induction f with
  | zero =>
    intro done a inv _ hr hy H
    refine ⟨List.ne_nil_of_mem hr, fun j hj => ?_⟩
    have hj1 : ¬ n ≤ j := fun h => hwt done inv (mem_ready.1 hr).1 j h hj
    refine ⟨by omega, ?_⟩
    by_cases e : j = i
    · rw [e]; exact hy.qOp ho H
    · have := hlast _ _ H j (ready_mono hj e)
      omega
  | succ f ih =>
    intro done a inv hap hr hy H
    refine ⟨List.ne_nil_of_mem hr, fun j hj => ?_⟩
    have hj1 : ¬ n ≤ j := fun h => hwt done inv (mem_ready.1 hr).1 j h hj
    have hjn : j < n := by omega
    refine ⟨hjn, ?_⟩
    by_cases e : j = i
    · rw [e]; exact hy.qOp ho H
    · obtain ⟨hju, oj, hoj, hw⟩ := mem_ready.1 hj
      have hno : ∀ e ∈ oj.after, Region.binds md e = true → e.on ≠ i := by
        intro x hx hb hxi
        have := hw x hx hb
        rw [hxi, getD_both (mem_ready.1 hr).1] at this
        cases this
      refine qOp_mono (fun a' h3 => ?_) (qOp_put hoj (hap j oj hoj e hju hno) (fun cs b => hns i o cs b ho) (fun cs b => hns j oj cs b hoj) hy (H.2 j (ready_mono hj e)).2)
      refine ih _ a' (inv.set hj hjn) (fun k ok hk hki hu hw2 => hap k ok hk hki ?_ hw2) (ready_mono hr (Ne.symm e)) h3.1 ?_
      · by_cases hjk : j = k
        · rw [← hjk]; exact hju
        · rw [getD_set_ne true hjk] at hu; exact hu
      · rw [Array.setIfInBounds_comm _ _ e]
        exact h3.2

theorem headQ_lex {n g p : Nat} {R : Act → Prop} (hns : Region.noSelect ops = true) (hwt : ∀ i, p ≤ i → i < n → ∀ done, HeadInv md ops n done → done.getD i true = false → ∀ t, n ≤ t → t ∉ Region.ready md ops done) (l : List Oper) :
    ∀ (k : Nat) (done : Array Bool) (a : Act), p ≤ k → (∀ j, j < l.length → l[j]? = ops[k + j]?) → k + l.length = n → HeadInv md ops n done → Region.lexHead md ops g l.length k done = true → wpQuiet P ops C R l a →
      headQ P md ops C n (fun d a' => Region.seqB md ops g n d = true ∧ R a') l.length done a := by
  induction l with
  | nil =>
    intro k done a _ _ hk _ hB h
    obtain rfl : k = n := hk
    exact ⟨hB, h⟩
  | cons o l ih =>
    intro k done a hpk hl hk inv hB h
    have h0 : ops[k]? = some o := by have := hl 0 (by simp); simpa using this.symm
    have hB' : ((Region.ready md ops done).contains k = true ∧ Region.free md ops done k = true) ∧ Region.lexHead md ops g l.length (k + 1) (done.setIfInBounds k true) = true := by
      have := hB
      simp only [List.length_cons, Region.lexHead, Bool.and_eq_true] at this
      exact this
    have hkn : k < n := by rw [← hk, List.length_cons]; omega
    have hr : k ∈ Region.ready md ops done := by simpa using hB'.1.1
    have hq : qOp P ops C k (wpQuiet P ops C R l) a := by unfold qOp; simp only [h0]; exact h
    obtain ⟨v, hy, hK⟩ := yieldsIn_of_qOp h0 hq
    refine headQ_first h0 (Region.noSelect_spec hns) (hwt k hpk hkn) (fun d a' hd => seqB_ready hd.1) l.length done a inv (Region.free_spec h0 hB'.1.2) hr hy ?_
    refine ih (k + 1) _ _ (by omega) (fun j hj => ?_) (by rw [← hk, List.length_cons]; omega) (inv.set hr hkn) hB'.2 hK
    have := hl (j + 1) (by rw [List.length_cons]; omega)
    rw [show k + 1 + j = k + (j + 1) by omega, ← this]
    rfl

theorem qTail_any {Q : Exit → Act → World → Prop} {a : Act} {w : World} {l : List Oper} (n : Nat) (C : World → Prop) (hB : Region.lexTailB .any l.toArray n = true) (hC : C w.drew)
    (h : QW P l.toArray C (fun a' => ∀ w', C w' → wpList P l.toArray Q (l.drop n) a' w') (l.take n) a) : wpAny P .any l.toArray Q l.toArray.size (Array.replicate l.toArray.size false) a w.drew := by
  unfold Region.lexTailB at hB
  simp only [Bool.and_eq_true, decide_eq_true_eq] at hB
  obtain ⟨⟨⟨⟨hns, hn⟩, hsk⟩, hch⟩, hx⟩ := hB
  have hnl : n < l.length := by simpa using hn
  have e1 : (l.take n).length = n := by rw [List.length_take]; omega
  have e2 : (l.drop n).length = l.toArray.size - n := by simp
  have inv : HeadInv .any l.toArray n (Array.replicate l.toArray.size false) := by
    refine ⟨by simp, fun j oj _ hd => ?_, fun t _ ht => getD_in (by simpa using ht) (getD_replicate_false _ _)⟩
    rw [getD_replicate_false] at hd
    cases hd
  have H := headQ_lex (P := P) (md := .any) (C := C) (g := l.toArray.size - n) (p := 0) hns (fun i _ hin done inv hu t ht => tail_waits hsk hch hn inv _ i rfl hin hu t ht) (l.take n) 0 _ a (Nat.le_refl _) (fun j hj => by
    rw [e1] at hj
    simp [hj]) (by omega) inv (by rw [e1]; exact hx) h.out
  rw [e1] at H
  have hfin := headQ_any (Q := Q) (g := l.toArray.size - n) (fun d a' w' hw' hd => by
    have := wpAny_of_seq (md := .any) (Q' := Q) (l.drop n) n d a' w' (fun j => by simp [List.getElem?_drop]) (by rw [e2]; exact hd.1) (hd.2 w' hw')
    rw [e2] at this
    exact this) n _ a w.drew hC H
  rw [show n + (l.toArray.size - n) = l.toArray.size by omega] at hfin
  exact hfin
/-- The region, its operations written out: the first n quiet in the class, the others one behind the other. -/
theorem qTail {id : Nat} {Q : Exit → Act → World → Prop} {a : Act} {w : World} {l : List Oper} (n : Nat) (C : World → Prop) (hm : P.follows .mixedOrders = true) (hB : Region.lexTailB .any l.toArray n = true) (hC : C w.drew)
    (h : QW P l.toArray C (fun a' => ∀ w', C w' → wpList P l.toArray Q (l.drop n) a' w') (l.take n) a) : (Code.region id l.toArray true).wp P Q a w :=
  wp_region_any hm (qTail_any n C hB hC h)
end
end Go.Proofs.YtnjmgknicffcbaaGreatDoor
namespace Go.Proofs.YtnjmgknicffcbaaGreatDoor
open Go.RowKit Go.Joins

/-- The list's places from o on hold cs. -/
def setFrom (xs : List Value) : Nat → List Value → List Value
  | _, [] => xs
  | o, u :: r => setFrom (xs.set o u) (o + 1) r
def putCells (w : World) (g : Nat) : Nat → List Value → World
  | _, [] => w
  | o, u :: r => putCells (w.setCell ⟨g, o, none⟩ u) g (o + 1) r
theorem setFrom_at : ∀ (cs : List Value) (xs : List Value) (o j : Nat), o + cs.length ≤ xs.length → (setFrom xs o cs)[j]? = if o ≤ j ∧ j < o + cs.length then cs[j - o]? else xs[j]?
  | [], xs, o, j, _ => by rw [if_neg (by simp only [List.length_nil]; omega)]; rfl
  | u :: r, xs, o, j, h => by
    rw [List.length_cons] at h
    show (setFrom (xs.set o u) (o + 1) r)[j]? = _
    rw [setFrom_at r (xs.set o u) (o + 1) j (by rw [List.length_set]; omega), List.length_cons]
    by_cases e : j = o
    · subst e
      rw [if_neg (by omega), if_pos (by omega), Nat.sub_self, List.getElem?_set_self (by omega)]
      rfl
    · by_cases h2 : o + 1 ≤ j ∧ j < o + 1 + r.length
      · rw [if_pos h2, if_pos (by omega), show j - o = (j - (o + 1)) + 1 by omega]
        rfl
      · rw [if_neg h2, if_neg (by omega), List.getElem?_set_ne (fun q => e q.symm)]
theorem setFrom_rows {α : Type} (f : α → List Value) (k : Nat) (hf : ∀ x, (f x).length = k) (hk : 0 < k) (L : List α) (i : Nat) (hi : i < L.length) (y : α) : setFrom (L.flatMap f) (i * k) (f y) = (L.set i y).flatMap f := by
  have hl := rows_len f k hf L
  have hik : i * k + k ≤ L.length * k := by
    have := Nat.mul_le_mul_right k hi
    rw [Nat.succ_mul] at this
    exact this
  refine List.ext_getElem? fun j => ?_
  rw [setFrom_at (f y) _ _ _ (by rw [hf, hl]; exact hik), hf]
  rcases Nat.lt_or_ge j (L.length * k) with hj | hj
  · have hq : j / k < L.length := by rw [Nat.div_lt_iff_lt_mul hk]; exact hj
    have hr := Nat.mod_lt j hk
    have hd := Nat.div_add_mod j k
    rw [Nat.mul_comm] at hd
    have e1 : ((L.set i y).flatMap f)[j]? = (f ((L.set i y)[j / k]'(by rw [List.length_set]; exact hq)))[j % k]? := by
      rw [← rows_at f k hf (L.set i y) (j / k) (j % k) (by rw [List.length_set]; exact hq) hr, hd]
    have e2 : (L.flatMap f)[j]? = (f L[j / k])[j % k]? := by rw [← rows_at f k hf L (j / k) (j % k) hq hr, hd]
    rw [e1, e2]
    by_cases e : j / k = i
    · have hji : j = i * k + j % k := by rw [← e]; exact hd.symm
      rw [if_pos (by omega)]
      have : (L.set i y)[j / k]'(by rw [List.length_set]; exact hq) = y := by
        subst e
        exact List.getElem_set_self _
      rw [this]
      congr 1
      omega
    · have hne : ¬ (i * k ≤ j ∧ j < i * k + k) := fun h => e (by
        have h1 : j < (i + 1) * k := by rw [Nat.succ_mul]; omega
        have h2 := (Nat.div_lt_iff_lt_mul hk).2 h1
        have h3 := (Nat.le_div_iff_mul_le hk).2 h.1
        omega)
      rw [if_neg hne]
      have : (L.set i y)[j / k]'(by rw [List.length_set]; exact hq) = L[j / k] := List.getElem_set_ne (fun q => e q.symm) _
      rw [this]
  · rw [if_neg (by omega), List.getElem?_eq_none (by rw [hl]; exact hj), List.getElem?_eq_none (by rw [rows_len f k hf, List.length_set]; exact hj)]
theorem own_putCells {B : Nat} {t : TypeId} {size g n c : Nat} : ∀ (cs : List Value) (o : Nat) (w : World) (xs : List Value), w.ownsRow B t size (.slice (some ⟨g, 0, none⟩) n c) n xs →
    (putCells w g o cs).ownsRow B t size (.slice (some ⟨g, 0, none⟩) n c) n (setFrom xs o cs) ∧ Kp (some g) w (putCells w g o cs)
  | [], o, w, xs, h => ⟨h, Kp.refl _ _⟩
  | u :: r, o, w, xs, h => by
    obtain ⟨h1, h2⟩ := h.stored o u
    obtain ⟨h3, h4⟩ := own_putCells r (o + 1) _ _ h1
    exact ⟨h3, Kp.trans h2 h4⟩
/-- A transaction and where its operations lie. -/
abbrev TR := TX × S3
def trcells (r : TR) : List Value := (tcs r.1 r.2.v).toList
theorem trcells_len (r : TR) : (trcells r).length = 12 := rfl
def trs (R : List TR) : List Value := R.flatMap trcells
theorem trs_one (R : List TR) : ∀ u ∈ trs R, u.oneCell' = true := by
  intro u hu
  obtain ⟨o, _, hu⟩ := List.mem_flatMap.1 hu
  unfold trcells at hu
  simp only [List.mem_cons, List.not_mem_nil, or_false] at hu
  rcases hu with rfl | rfl | rfl | rfl | rfl | rfl | rfl | rfl | rfl | rfl | rfl | rfl <;> rfl
def texts (R : List TR) : List TX := R.map (·.1)
/-- Each transaction's operations lie where they should. -/
def TOs (w : World) (R : List TR) : Prop := ∀ r ∈ R, TOV w r.2.v r.1.ops
theorem TOs.gr {w w' : World} {R : List TR} (h : TOs w R) (g : Gr w w') : TOs w' R := fun r hr => (h r hr).gr g
theorem xfix_at {w : World} {b off j : Nat} {R : List TR} (hj : j < R.length) (h : ∀ i u, (trs R)[i]? = some u → w.cell? ⟨b, off + i, none⟩ = some u) : XFix w b (off + j * 12) R[j].1 R[j].2.v := by
  have at_ : ∀ r u, r < 12 → (trcells R[j])[r]? = some u → w.cell? ⟨b, off + j * 12 + r, none⟩ = some u := fun r u hr hu => by
    rw [Nat.add_assoc]
    exact h _ u (by rw [show trs R = R.flatMap trcells from rfl, rows_at trcells 12 trcells_len R j r hj hr]; exact hu)
  exact ⟨at_ 0 _ (by decide) rfl, at_ 1 _ (by decide) rfl, at_ 2 _ (by decide) rfl, at_ 3 _ (by decide) rfl, at_ 4 _ (by decide) rfl, at_ 5 _ (by decide) rfl, at_ 6 _ (by decide) rfl, at_ 7 _ (by decide) rfl, at_ 8 _ (by decide) rfl, at_ 9 _ (by decide) rfl, at_ 10 _ (by decide) rfl, at_ 11 _ (by decide) rfl⟩
theorem xv_of_sl {w : World} {v : Value} {R : List TR} (h : SL w 12 v R.length (trs R)) (ho : TOs w R) : XV w v (texts R) := by
  obtain ⟨A, c, hv, h1, h2, h3, h4⟩ := h
  refine ⟨A, c, by unfold texts; rw [List.length_map]; exact hv, by unfold texts; rw [List.length_map]; exact h1, h2, fun j hj => ?_⟩
  unfold texts at hj
  rw [List.length_map] at hj
  obtain ⟨b, off, ha, _⟩ := h4 (j * 12) _ (by rw [show trs R = R.flatMap trcells from rfl, show j * 12 = j * 12 + 0 by omega, rows_at trcells 12 trcells_len R j 0 hj (by decide)]; rfl)
  refine ⟨b, off, ha, ?_⟩
  have hx := xfix_at (w := w) (b := b) (off := off) hj fun i u hu => by
    obtain ⟨b', off', ha', hc⟩ := h4 i u hu
    rw [ha] at ha'
    injection ha' with ha'
    injection ha' with e1 e2
    subst e1 e2
    exact hc
  unfold texts
  rw [List.getElem_map]
  exact ⟨R[j].2.v, ho _ (List.getElem_mem hj), hx⟩
/-- The call owns the slice v from block B on: it reads as these transactions. -/
def XO (w : World) (B : Nat) (v : Value) (R : List TR) : Prop := w.ownsRow B 47 12 v R.length (trs R)
theorem XO.gr {w w' : World} {B : Nat} {v : Value} {R : List TR} (h : XO w B v R) (g : Gr w w') : XO w' B v R := own_gr h g
theorem XO.le {w : World} {B B' : Nat} {v : Value} {R : List TR} (h : XO w B v R) (hb : B' ≤ B) : XO w B' v R := own_le h hb
theorem XO.xv {w : World} {B : Nat} {v : Value} {R : List TR} (h : XO w B v R) (ho : TOs w R) : XV w v (texts R) := xv_of_sl (own_sl h) ho
theorem infoTxn : (Tryz.prog.info? 47).map (fun i => (i.zero, i.size, i.bytes)) = some (some (.agg zeroX), 12, 112) := by kernel_rfl

end Go.Proofs.YtnjmgknicffcbaaGreatDoor
namespace Go.Proofs.YtnjmgknicffcbaaGreatDoor
open Go.RowKit Go.Joins

/-- A value that lies there already, stored again. -/
theorem own_again {w : World} {B : Nat} {t : TypeId} {size g n c : Nat} {xs : List Value} (h : w.ownsRow B t size (.slice (some ⟨g, 0, none⟩) n c) n xs) {j : Nat} {u : Value} (hj : xs[j]? = some u) : (w.setCell ⟨g, j, none⟩ u).ownsRow B t size (.slice (some ⟨g, 0, none⟩) n c) n xs ∧ Kp (some g) w (w.setCell ⟨g, j, none⟩ u) := by
  obtain ⟨h1, h2⟩ := h.stored j u
  refine ⟨?_, h2⟩
  have : xs.set j u = xs := by
    refine List.ext_getElem? fun i => ?_
    by_cases e : j = i
    · subst e
      rw [List.getElem?_set_self (List.getElem?_eq_some_iff.1 hj).1, hj]
    · rw [List.getElem?_set_ne e]
  rw [this] at h1
  exact h1
/-- What Copy has in memory. -/
structure CpS (w : World) (t : TX) (A : Option Addr) (n c : Nat) (wr : World) : Prop where
  b : wr.heap[w.heap.size]? = some (.cells (tcs t (.slice A n c)) 47 (0, 0))
  r : wr.heap[w.heap.size + 1]? = some (.cells zeroX 47 (0, 0))
  row : wr.ownsRow (w.heap.size + 2) 52 4 (.slice A n c) n (tocells t.ops)
  gr : Gr w wr
theorem CpS.next {w : World} {t : TX} {A : Option Addr} {n c : Nat} {a b : World} (h : CpS w t A n c a) (g : Gr a b) : CpS w t A n c b := ⟨gr_obj g h.b, gr_obj g h.r, own_gr h.row g, h.gr.trans g⟩
theorem CpS.again {w : World} {t : TX} {g n c : Nat} {a : World} (h : CpS w t (some ⟨g, 0, none⟩) n c a) {j : Nat} {u : Value} (hj : (tocells t.ops)[j]? = some u) : CpS w t (some ⟨g, 0, none⟩) n c (a.setCell ⟨g, j, none⟩ u) := by
  obtain ⟨h1, h2⟩ := own_again h.row hj
  have hg : w.heap.size + 2 ≤ g := (own_len h.row).2.2.1
  exact ⟨kp_obj h2 h.b (fun e => by injection e with e; omega), kp_obj h2 h.r (fun e => by injection e with e; omega), h1, h.gr.setCell (by show _ ≤ g; omega) _⟩
end Go.Proofs.YtnjmgknicffcbaaGreatDoor
namespace Go.Proofs.YtnjmgknicffcbaaGreatDoor
open Go.RowKit Go.Joins
set_option linter.unusedSimpArgs false
set_option linter.unusedVariables false

/-- The blocks from B on that were there stay as they were. -/
structure Mid (B : Nat) (a b : World) : Prop where
  size : a.heap.size ≤ b.heap.size
  mid : ∀ x, B ≤ x → x < a.heap.size → b.heap[x]? = a.heap[x]?
theorem Mid.refl (B : Nat) (a : World) : Mid B a a := ⟨Nat.le_refl _, fun _ _ _ => rfl⟩
theorem Mid.trans {B : Nat} {a b c : World} (h : Mid B a b) (k : Mid B b c) : Mid B a c := ⟨Nat.le_trans h.size k.size, fun x hx hl => (k.mid x hx (Nat.lt_of_lt_of_le hl h.size)).trans (h.mid x hx hl)⟩
theorem Mid.of_gr {B : Nat} {a b : World} (g : Gr a b) : Mid B a b := ⟨g.size, fun x _ hl => g.block x hl⟩
theorem Mid.gr {B : Nat} {a b c : World} (h : Mid B a b) (g : Gr b c) : Mid B a c := h.trans (Mid.of_gr g)
theorem Mid.set {B : Nat} {a b : World} (h : Mid B a b) {p : Addr} (hp : p.block < B ∨ a.heap.size ≤ p.block) (v : Value) : Mid B a (b.setCell p v) := by
  refine ⟨by simpa [World.setCell] using h.size, fun x hx hl => ?_⟩
  rw [Go.Deep.blk_setCell_other _ _ _ _ (by omega)]
  exact h.mid x hx hl
theorem own_mid {a b : World} {B : Nat} {t : TypeId} {size n : Nat} {v : Value} {xs : List Value} (h : a.ownsRow B t size v n xs) (k : Mid B a b) : b.ownsRow B t size v n xs := by
  refine ⟨h.1, ?_⟩
  rcases h.2 with h2 | ⟨g', cap, cur, hh, hb, hg, hn, hm, hcs, ht⟩
  · exact .inl h2
  · exact .inr ⟨g', cap, cur, hh, hb, by rw [k.mid g' hb (Array.getElem?_eq_some_iff.1 hg).1]; exact hg, hn, hm, hcs, ht⟩
/-- The operations of the first d lie in memory from B on, the others' where they lay in w0. -/
def TOd (w0 w : World) (B d : Nat) (R : List TR) : Prop := ∀ j (hj : j < R.length), (j < d → TOO w B R[j].2.v R[j].1.ops) ∧ (d ≤ j → TOV w0 R[j].2.v R[j].1.ops)
def TOn (w : World) (B : Nat) (R : List TR) : Prop := ∀ r ∈ R, TOO w B r.2.v r.1.ops
theorem TOd.mid {w0 a b : World} {B d : Nat} {R : List TR} (h : TOd w0 a B d R) (k : Mid B a b) : TOd w0 b B d R := fun j hj => ⟨fun e => own_mid ((h j hj).1 e) k, (h j hj).2⟩
theorem TOd.start {w0 w : World} {B : Nat} {R : List TR} (h : TOs w0 R) : TOd w0 w B 0 R := fun j hj => ⟨fun e => absurd e (Nat.not_lt_zero _), fun _ => h _ (List.getElem_mem hj)⟩
theorem TOd.end {w0 w : World} {B d : Nat} {R : List TR} (h : TOd w0 w B d R) (e : R.length ≤ d) : TOn w B R := fun r hr => by
  obtain ⟨j, hj, rfl⟩ := List.mem_iff_getElem.1 hr
  exact (h j hj).1 (by omega)
theorem TOn.mid {a b : World} {B : Nat} {R : List TR} (h : TOn a B R) (k : Mid B a b) : TOn b B R := fun r hr => own_mid (h r hr) k
/-- A row of transactions that the call owns from B on. -/
def XN (w : World) (B : Nat) (v : Value) (L : List TX) : Prop := ∃ R, texts R = L ∧ XO w B v R ∧ TOn w B R
theorem XN.mid {a b : World} {B : Nat} {v : Value} {L : List TX} (h : XN a B v L) (k : Mid B a b) : XN b B v L := by
  obtain ⟨R, h1, h2, h3⟩ := h
  exact ⟨R, h1, own_mid h2 k, h3.mid k⟩
theorem XN.xv {w : World} {B : Nat} {v : Value} {L : List TX} (h : XN w B v L) : XV w v L := by
  obtain ⟨R, rfl, h2, h3⟩ := h
  exact h2.xv fun r hr => (h3 r hr).tov
theorem XN.le {w : World} {B B' : Nat} {v : Value} {L : List TX} (h : XN w B v L) (hb : B' ≤ B) : XN w B' v L := by
  obtain ⟨R, h1, h2, h3⟩ := h
  exact ⟨R, h1, h2.le hb, fun r hr => (h3 r hr).le hb⟩
/-- Logs whose rows the call owns from B on. -/
def LN (w : World) (B : Nat) (u : Nat → S3) (l : LG) : Prop := ∀ i, i < 8 → XN w B (.slice (u i).a (u i).n (u i).c) (l i)
theorem LN.lv {w : World} {B : Nat} {u : Nat → S3} {l : LG} (h : LN w B u l) : LV w u l := fun i hi => (h i hi).xv
theorem LN.mid {a b : World} {B : Nat} {u : Nat → S3} {l : LG} (h : LN a B u l) (k : Mid B a b) : LN b B u l := fun i hi => (h i hi).mid k
theorem texts_len (R : List TR) : (texts R).length = R.length := List.length_map _
theorem XFix.kp {w w' : World} {r : Option Nat} {b off : Nat} {t : TX} {v : Value} (h : XFix w b off t v) (k : Kp r w w') (hr : r ≠ some b) : XFix w' b off t v := by
  obtain ⟨h1, h2, h3, h4, h5, h6, h7, h8, h9, h10, h11, h12⟩ := h
  have hr' : ∀ (p : Addr), p.block = b → some p.block ≠ r := fun p hp e => hr (by rw [← e, hp])
  exact ⟨k.cell h1 (hr' _ rfl), k.cell h2 (hr' _ rfl), k.cell h3 (hr' _ rfl), k.cell h4 (hr' _ rfl), k.cell h5 (hr' _ rfl), k.cell h6 (hr' _ rfl), k.cell h7 (hr' _ rfl), k.cell h8 (hr' _ rfl), k.cell h9 (hr' _ rfl), k.cell h10 (hr' _ rfl), k.cell h11 (hr' _ rfl), k.cell h12 (hr' _ rfl)⟩
theorem Gr.trans_kp {a b c : World} {g : Nat} (h : Gr a b) (k : Kp (some g) b c) (hg : a.heap.size ≤ g) : Gr a c :=
  ⟨k.1.trans h.os, k.2.trans h.tape, k.3.trans h.output, Nat.le_trans h.size k.size, fun x hx => (k.5 x (Nat.lt_of_lt_of_le hx h.size) (fun e => by injection e with e; omega)).trans (h.block x hx)⟩
theorem Gr.putCells {a : World} {g : Nat} (hg : a.heap.size ≤ g) : ∀ (cs : List Value) (o : Nat) {b : World}, Gr a b → Gr a (putCells b g o cs)
  | [], _, _, h => h
  | _ :: r, o, _, h => Gr.putCells hg r (o + 1) (h.setCell hg _)
theorem mid_putCells {B g : Nat} (hg : g < B) : ∀ (cs : List Value) (o : Nat) (b : World), Mid B b (putCells b g o cs)
  | [], _, b => Mid.refl B b
  | u :: r, o, b => ((Mid.refl B b).set (.inl hg) u).trans (mid_putCells hg r (o + 1) _)
def updS (f : Nat → S3) (k : Nat) (s : S3) : Nat → S3 := fun i => if i = k then s else f i
theorem lcells_upd (f : Nat → S3) {k : Nat} (hk : k < 8) (s : S3) : (lcells f).setIfInBounds k (.slice s.a s.n s.c) = lcells (updS f k s) := by
  match k, hk with
  | 0, _ => rfl
  | 1, _ => rfl
  | 2, _ => rfl
  | 3, _ => rfl
  | 4, _ => rfl
  | 5, _ => rfl
  | 6, _ => rfl
  | 7, _ => rfl
theorem LBox.set {w : World} {b : Nat} {u : Nat → S3} (h : LBox w b u) {k : Nat} (hk : k < 8) (A : Option Addr) (n c : Nat) : LBox (w.setCell ⟨b, k, none⟩ (.slice A n c)) b (updS u k ⟨A, n, c⟩) := ⟨by rw [block_setCell h.box]; exact congrArg (fun x => some (Obj.cells x 25 (0, 0))) (lcells_upd u hk ⟨A, n, c⟩)⟩
structure FitC (l : LG) : Prop where
  len : ∀ i, i < 8 → (l i).length * 112 ≤ 140737488355328
  tx : ∀ i t, i < 8 → t ∈ l i → t.ops.length * 48 ≤ 140737488355328 ∧ ∀ o ∈ t.ops, o.key.size ≤ 281474976710656 ∧ o.elem.size ≤ 281474976710656
theorem FitL.c {l : LG} (h : FitL l) : FitC l := ⟨fun i hi => by have := h.len i hi; omega, fun i t hi ht => ⟨by have := (h.fit i t hi ht).len; omega, fun o ho => ⟨((h.fit i t hi ht).ops o ho).2.2.1, ((h.fit i t hi ht).ops o ho).2.2.2⟩⟩⟩

end Go.Proofs.YtnjmgknicffcbaaGreatDoor
