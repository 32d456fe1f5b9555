/- Walks: the program's Stamp and behind. A region that draws its order: its first operations read cells of a class of worlds, and its calls answer one value and leave the class; the others stand in one order behind all of these. It names no program. Walks: cmp.Compare of numbers, cmp.Or. (Taken out of XSdA.) slices.Sort laid at []string. Plain mathematics of the stand-in disk: files, operations, crashes, names. It names no program. -/
import Derived.Test.YtlihcjlonafohaaGreatZf06
import Derived.Test.YtlihcjlonafohaaGreatZf02
import Derived.StillTail
import Derived.Test.YtlihcjlonafohaaGreatZf01
import Derived.Shelf.SortM.Plain
import Derived.Shelf.SortM.SortNone
import GoSem.Op.String
import Derived.Laws.Strings
namespace Go.Proofs.YtlihcjlonafohaaGreat
open Go.RowKit Go.Joins

theorem boxesLV (u : Nat → S3) (v : Nat → Nat) (w : World) : ∃ W, W = (w.alloc (.cells (lcells u) 24)).alloc (.cells (vcells v) 27) ∧ Gr w W ∧ W.heap.size = w.heap.size + 2 ∧
    LBox W w.heap.size u ∧ VBox W (w.heap.size + 1) v := by
  refine ⟨_, rfl, ((Gr.refl w).alloc _).alloc _, by simp, ⟨?_⟩, ⟨?_⟩⟩
  all_goals (simp only [World.alloc, Array.getElem?_push, Array.size_push]; simp)
theorem LV.cell {w : World} {u : Nat → S3} {l : LG} (h : LV w u l) {i j : Nat} (hi : i < 8) (hj : j < (l i).length) : ∃ b off, (u i).a = some ⟨b, off, none⟩ ∧ XCell w b (off + j * 12) (l i)[j] := by
  obtain ⟨A, c, hv, h1, h2, h3⟩ := h i hi
  injection hv with e1 e2 e3
  obtain ⟨b, off, ha, hc⟩ := h3 j hj
  exact ⟨b, off, by rw [e1, ha], hc⟩
theorem stampTo_skip {l : LG} {v : Nat → Nat} {k : Nat} (h : v k = 0 ∨ (l k).length < v k) : stampTo l v (k + 1) = stampTo l v k := by
  show max _ _ = _
  have : lastS l v k = 0 := by
    unfold lastS
    rcases h with h | h
    · rw [if_pos h]
    · rw [if_neg (by omega), List.getElem?_eq_none (by omega)]
  rw [this]
  omega
theorem stampTo_take {l : LG} {v : Nat → Nat} {k d : Nat} (hv : v k = d + 1) (h : d < (l k).length) : stampTo l v (k + 1) = max (stampTo l v k) ((l k)[d]).stamp := by
  show max _ _ = _
  rw [lastS_at hv (List.getElem?_eq_getElem h)]

theorem behind_yes {l : LG} {t : TX} (h : leqB t.deps (sizeV l) = false) : behindE l t = 90 := by unfold behindE; rw [h]; rfl
theorem behind_old {l : LG} {t : TX} (h : leqB t.deps (sizeV l) = true) (h2 : t.stamp ≤ stampV l t.deps) : behindE l t = 80 := by unfold behindE; rw [if_pos h, if_pos h2]
theorem behind_ok {l : LG} {t : TX} (h : leqB t.deps (sizeV l) = true) (h2 : ¬ t.stamp ≤ stampV l t.deps) : behindE l t = 0 := by unfold behindE; rw [if_pos h, if_neg h2]
/-- The eight cells of logs lie in this box. -/
def LC (w : World) (b : Nat) (u : Nat → S3) : Prop := w.cell? ⟨b, 0, none⟩ = some (.slice (u 0).a (u 0).n (u 0).c) ∧ w.cell? ⟨b, 1, none⟩ = some (.slice (u 1).a (u 1).n (u 1).c) ∧ w.cell? ⟨b, 2, none⟩ = some (.slice (u 2).a (u 2).n (u 2).c) ∧ w.cell? ⟨b, 3, none⟩ = some (.slice (u 3).a (u 3).n (u 3).c) ∧ w.cell? ⟨b, 4, none⟩ = some (.slice (u 4).a (u 4).n (u 4).c) ∧ w.cell? ⟨b, 5, none⟩ = some (.slice (u 5).a (u 5).n (u 5).c) ∧ w.cell? ⟨b, 6, none⟩ = some (.slice (u 6).a (u 6).n (u 6).c) ∧ w.cell? ⟨b, 7, none⟩ = some (.slice (u 7).a (u 7).n (u 7).c)
theorem LC.gr {w w' : World} {b : Nat} {u : Nat → S3} (h : LC w b u) (g : Gr w w') : LC w' b u := by
  obtain ⟨h0, h1, h2, h3, h4, h5, h6, h7⟩ := h
  exact ⟨g.cell h0, g.cell h1, g.cell h2, g.cell h3, g.cell h4, g.cell h5, g.cell h6, g.cell h7⟩
theorem LBox.lc {w : World} {b : Nat} {u : Nat → S3} (h : LBox w b u) : LC w b u := h.all
/-- The eight cells of a vector lie in this box. -/
def VC (w : World) (b : Nat) (a : Nat → Nat) : Prop := w.cell? ⟨b, 0, none⟩ = some (.int .u64 (a 0 : Int)) ∧ w.cell? ⟨b, 1, none⟩ = some (.int .u64 (a 1 : Int)) ∧ w.cell? ⟨b, 2, none⟩ = some (.int .u64 (a 2 : Int)) ∧ w.cell? ⟨b, 3, none⟩ = some (.int .u64 (a 3 : Int)) ∧ w.cell? ⟨b, 4, none⟩ = some (.int .u64 (a 4 : Int)) ∧ w.cell? ⟨b, 5, none⟩ = some (.int .u64 (a 5 : Int)) ∧ w.cell? ⟨b, 6, none⟩ = some (.int .u64 (a 6 : Int)) ∧ w.cell? ⟨b, 7, none⟩ = some (.int .u64 (a 7 : Int))
theorem VC.gr {w w' : World} {b : Nat} {a : Nat → Nat} (h : VC w b a) (g : Gr w w') : VC w' b a := by
  obtain ⟨h0, h1, h2, h3, h4, h5, h6, h7⟩ := h
  exact ⟨g.cell h0, g.cell h1, g.cell h2, g.cell h3, g.cell h4, g.cell h5, g.cell h6, g.cell h7⟩
theorem VBox.vc {w : World} {b : Nat} {a : Nat → Nat} (h : VBox w b a) : VC w b a := h.all
end Go.Proofs.YtlihcjlonafohaaGreat
namespace Go.Proofs.YtlihcjlonafohaaGreat

section
variable {P : Program} {ops : Array Oper} {md : Region.Mode} {C : World → Prop}
/-- Whatever may come up is of the head and quiet, f times; then L. -/
def headQ (P : Program) (md : Region.Mode) (ops : Array Oper) (C : World → Prop) (n : Nat) (L : Array Bool → Act → Prop) : Nat → Array Bool → Act → Prop
  | 0, done, a => L done a
  | f + 1, done, a => Region.ready md ops done ≠ [] ∧ ∀ i, i ∈ Region.ready md ops done → i < n ∧ qOp P ops C i (headQ P md ops C n L f (done.setIfInBounds i true)) a

theorem headQ_any {n g : Nat} {L : Array Bool → Act → Prop} {Q : Exit → Act → World → Prop} (hL : ∀ done a w, C w → L done a → wpAny P md ops Q g done a w) (f : Nat) :
    ∀ (done : Array Bool) (a : Act) (w : World), C w → headQ P md ops C n L f done a → wpAny P md ops Q (f + g) done a w := by
  induction f with
  | zero => intro done a w hw h; rw [Nat.zero_add]; exact hL done a w hw h
  | succ f ih =>
    intro done a w hw h
    have e : f + 1 + g = (f + g) + 1 := by omega
    rw [e]
    refine ⟨fun h0 => (h.1 h0).elim, fun i hi => ?_⟩
    exact wpOp_of_qOp hw (fun a' w' hw' h' => ih _ a' w' hw' h') (h.2 i hi).2

theorem headQ_first {n i : Nat} {o : Oper} {v : Value} {L : Array Bool → Act → Prop} (ho : ops[i]? = some o) (hns : ∀ (j : Nat) (o : Oper) cs b, ops[j]? = some o → o.op ≠ .select cs b)
    (hwt : ∀ done, HeadInv md ops n done → done.getD i true = false → ∀ t, n ≤ t → t ∉ Region.ready md ops done)
    (hlast : ∀ done a, L done a → ∀ j ∈ Region.ready md ops done, n ≤ j) (f : Nat) :
    ∀ (done : Array Bool) (a : Act), HeadInv md ops n done →
      (∀ j oj, ops[j]? = some oj → j ≠ i → done.getD j true = false → (∀ e ∈ oj.after, Region.binds md e = true → e.on ≠ i) → o.apart ops oj = true) →
      i ∈ Region.ready md ops done → YieldsIn P ops C o v a → headQ P md ops C n L f (done.setIfInBounds i true) (a.put o.dst v) → headQ P md ops C n L (f + 1) done a := by
  induction f with
  | zero =>
    intro done a inv _ hr hy H
    refine ⟨List.ne_nil_of_mem hr, fun j hj => ?_⟩
    have hj1 : ¬ n ≤ j := fun h => hwt done inv (mem_ready.1 hr).1 j h hj
    refine ⟨by omega, ?_⟩
    by_cases e : j = i
    · rw [e]; exact hy.qOp ho H
    · have := hlast _ _ H j (ready_mono hj e)
      omega
  | succ f ih =>
    intro done a inv hap hr hy H
    refine ⟨List.ne_nil_of_mem hr, fun j hj => ?_⟩
    have hj1 : ¬ n ≤ j := fun h => hwt done inv (mem_ready.1 hr).1 j h hj
    have hjn : j < n := by omega
    refine ⟨hjn, ?_⟩
    by_cases e : j = i
    · rw [e]; exact hy.qOp ho H
    · obtain ⟨hju, oj, hoj, hw⟩ := mem_ready.1 hj
      have hno : ∀ e ∈ oj.after, Region.binds md e = true → e.on ≠ i := by
        intro x hx hb hxi
        have := hw x hx hb
        rw [hxi, getD_both (mem_ready.1 hr).1] at this
        cases this
      refine qOp_mono (fun a' h3 => ?_) (qOp_put hoj (hap j oj hoj e hju hno) (fun cs b => hns i o cs b ho) (fun cs b => hns j oj cs b hoj) hy (H.2 j (ready_mono hj e)).2)
      refine ih _ a' (inv.set hj hjn) (fun k ok hk hki hu hw2 => hap k ok hk hki ?_ hw2) (ready_mono hr (Ne.symm e)) h3.1 ?_
      · by_cases hjk : j = k
        · rw [← hjk]; exact hju
        · rw [getD_set_ne true hjk] at hu; exact hu
      · rw [Array.setIfInBounds_comm _ _ e]
        exact h3.2

theorem headQ_lex {n g p : Nat} {R : Act → Prop} (hns : Region.noSelect ops = true) (hwt : ∀ i, p ≤ i → i < n → ∀ done, HeadInv md ops n done → done.getD i true = false → ∀ t, n ≤ t → t ∉ Region.ready md ops done) (l : List Oper) :
    ∀ (k : Nat) (done : Array Bool) (a : Act), p ≤ k → (∀ j, j < l.length → l[j]? = ops[k + j]?) → k + l.length = n → HeadInv md ops n done → Region.lexHead md ops g l.length k done = true → wpQuiet P ops C R l a →
      headQ P md ops C n (fun d a' => Region.seqB md ops g n d = true ∧ R a') l.length done a := by
  induction l with
  | nil =>
    intro k done a _ _ hk _ hB h
    obtain rfl : k = n := hk
    exact ⟨hB, h⟩
  | cons o l ih =>
    intro k done a hpk hl hk inv hB h
    have h0 : ops[k]? = some o := by have := hl 0 (by simp); simpa using this.symm
    have hB' : ((Region.ready md ops done).contains k = true ∧ Region.free md ops done k = true) ∧ Region.lexHead md ops g l.length (k + 1) (done.setIfInBounds k true) = true := by
      have := hB
      simp only [List.length_cons, Region.lexHead, Bool.and_eq_true] at this
      exact this
    have hkn : k < n := by rw [← hk, List.length_cons]; omega
    have hr : k ∈ Region.ready md ops done := by simpa using hB'.1.1
    have hq : qOp P ops C k (wpQuiet P ops C R l) a := by unfold qOp; simp only [h0]; exact h
    obtain ⟨v, hy, hK⟩ := yieldsIn_of_qOp h0 hq
    refine headQ_first h0 (Region.noSelect_spec hns) (hwt k hpk hkn) (fun d a' hd => seqB_ready hd.1) l.length done a inv (Region.free_spec h0 hB'.1.2) hr hy ?_
    refine ih (k + 1) _ _ (by omega) (fun j hj => ?_) (by rw [← hk, List.length_cons]; omega) (inv.set hr hkn) hB'.2 hK
    have := hl (j + 1) (by rw [List.length_cons]; omega)
    rw [show k + 1 + j = k + (j + 1) by omega, ← this]
    rfl

theorem qTail_any {Q : Exit → Act → World → Prop} {a : Act} {w : World} {l : List Oper} (n : Nat) (C : World → Prop) (hB : Region.lexTailB .any l.toArray n = true) (hC : C w.drew)
    (h : QW P l.toArray C (fun a' => ∀ w', C w' → wpList P l.toArray Q (l.drop n) a' w') (l.take n) a) : wpAny P .any l.toArray Q l.toArray.size (Array.replicate l.toArray.size false) a w.drew := by
  unfold Region.lexTailB at hB
  simp only [Bool.and_eq_true, decide_eq_true_eq] at hB
  obtain ⟨⟨⟨⟨hns, hn⟩, hsk⟩, hch⟩, hx⟩ := hB
  have hnl : n < l.length := by simpa using hn
  have e1 : (l.take n).length = n := by rw [List.length_take]; omega
  have e2 : (l.drop n).length = l.toArray.size - n := by simp
  have inv : HeadInv .any l.toArray n (Array.replicate l.toArray.size false) := by
    refine ⟨by simp, fun j oj _ hd => ?_, fun t _ ht => getD_in (by simpa using ht) (getD_replicate_false _ _)⟩
    rw [getD_replicate_false] at hd
    cases hd
  have H := headQ_lex (P := P) (md := .any) (C := C) (g := l.toArray.size - n) (p := 0) hns (fun i _ hin done inv hu t ht => tail_waits hsk hch hn inv _ i rfl hin hu t ht) (l.take n) 0 _ a (Nat.le_refl _) (fun j hj => by
    rw [e1] at hj
    simp [hj]) (by omega) inv (by rw [e1]; exact hx) h.out
  rw [e1] at H
  have hfin := headQ_any (Q := Q) (g := l.toArray.size - n) (fun d a' w' hw' hd => by
    have := wpAny_of_seq (md := .any) (Q' := Q) (l.drop n) n d a' w' (fun j => by simp [List.getElem?_drop]) (by rw [e2]; exact hd.1) (hd.2 w' hw')
    rw [e2] at this
    exact this) n _ a w.drew hC H
  rw [show n + (l.toArray.size - n) = l.toArray.size by omega] at hfin
  exact hfin
/-- The region, its operations written out: the first n quiet in the class, the others one behind the other. -/
theorem qTail {id : Nat} {Q : Exit → Act → World → Prop} {a : Act} {w : World} {l : List Oper} (n : Nat) (C : World → Prop) (hm : P.follows .mixedOrders = true) (hB : Region.lexTailB .any l.toArray n = true) (hC : C w.drew)
    (h : QW P l.toArray C (fun a' => ∀ w', C w' → wpList P l.toArray Q (l.drop n) a' w') (l.take n) a) : (Code.region id l.toArray true).wp P Q a w :=
  wp_region_any hm (qTail_any n C hB hC h)
end
end Go.Proofs.YtlihcjlonafohaaGreat
namespace Go.Proofs.YtlihcjlonafohaaGreat
open Go.RowKit Go.Joins
set_option linter.unusedSimpArgs false
set_option linter.unusedVariables false

/-- As cmp.Compare tells. -/
def cmpZ (a b : Int) : Int := if a < b then -1 else if b < a then 1 else 0
/-- The first that is not nought. -/
def orL : List Int → Int
  | [] => 0
  | x :: r => if x = 0 then orL r else x
set_option maxRecDepth 100000 in
set_option maxHeartbeats 2000000 in
theorem nan_u64 (a : Int) (w : World) : Calls Tryz.prog 184 #[.int .u64 a] w fun e w' => e = .returned (.bool false) ∧ w' = w := by
  go_enter Tryz.func184, Tryz.ntmps184
  go_wp2_with fail
  go_ret
  exact ⟨rfl, rfl⟩
set_option maxRecDepth 100000 in
set_option maxHeartbeats 2000000 in
theorem nan_int (a : Int) (w : World) : Calls Tryz.prog 208 #[.int .i64 a] w fun e w' => e = .returned (.bool false) ∧ w' = w := by
  go_enter Tryz.func208, Tryz.ntmps208
  go_wp2_with fail
  go_ret
  exact ⟨rfl, rfl⟩
set_option maxRecDepth 100000 in
set_option maxHeartbeats 2000000 in
theorem cmp_u64 (a b : Int) (w : World) : Calls Tryz.prog 147 #[.int .u64 a, .int .u64 b] w fun e w' => e = .returned (.int .i64 (cmpZ a b)) ∧ w' = w := by
  obtain ⟨r, hr⟩ : ∃ r, r = cmpZ a b := ⟨_, rfl⟩
  rw [← hr]
  have HR := Lib.hid hr
  clear hr
  go_enter Tryz.func147, Tryz.ntmps147
  go_wp2_with fail
  refine (nan_u64 a w).mono ?_
  rintro e w1 ⟨rfl, hw1⟩
  subst hw1
  go_wp2_with fail
  refine (nan_u64 b w1).mono ?_
  rintro e w2 ⟨rfl, hw2⟩
  subst hw2
  by_cases h1 : a < b
  · have HE : Hid (r = -1) := Lib.hid (by rw [HR.out]; unfold cmpZ; rw [if_pos h1])
    go_wp2_with fail
    go_ret
    exact ⟨by rw [HE.out]; rfl, rfl⟩
  · by_cases h2 : b < a
    · have HE : Hid (r = 1) := Lib.hid (by rw [HR.out]; unfold cmpZ; rw [if_neg h1, if_pos h2])
      go_wp2_with fail
      go_ret
      exact ⟨by rw [HE.out]; rfl, rfl⟩
    · have HE : Hid (r = 0) := Lib.hid (by rw [HR.out]; unfold cmpZ; rw [if_neg h1, if_neg h2])
      go_wp2_with fail
      go_ret
      exact ⟨by rw [HE.out]; rfl, rfl⟩
set_option maxRecDepth 100000 in
set_option maxHeartbeats 2000000 in
theorem cmp_int (a b : Int) (w : World) : Calls Tryz.prog 179 #[.int .i64 a, .int .i64 b] w fun e w' => e = .returned (.int .i64 (cmpZ a b)) ∧ w' = w := by
  obtain ⟨r, hr⟩ : ∃ r, r = cmpZ a b := ⟨_, rfl⟩
  rw [← hr]
  have HR := Lib.hid hr
  clear hr
  go_enter Tryz.func179, Tryz.ntmps179
  go_wp2_with fail
  refine (nan_int a w).mono ?_
  rintro e w1 ⟨rfl, hw1⟩
  subst hw1
  go_wp2_with fail
  refine (nan_int b w1).mono ?_
  rintro e w2 ⟨rfl, hw2⟩
  subst hw2
  by_cases h1 : a < b
  · have HE : Hid (r = -1) := Lib.hid (by rw [HR.out]; unfold cmpZ; rw [if_pos h1])
    go_wp2_with fail
    go_ret
    exact ⟨by rw [HE.out]; rfl, rfl⟩
  · by_cases h2 : b < a
    · have HE : Hid (r = 1) := Lib.hid (by rw [HR.out]; unfold cmpZ; rw [if_neg h1, if_pos h2])
      go_wp2_with fail
      go_ret
      exact ⟨by rw [HE.out]; rfl, rfl⟩
    · have HE : Hid (r = 0) := Lib.hid (by rw [HR.out]; unfold cmpZ; rw [if_neg h1, if_neg h2])
      go_wp2_with fail
      go_ret
      exact ⟨by rw [HE.out]; rfl, rfl⟩
theorem orL_take (L : List Int) : ∀ j, (∀ i (h : i < L.length), i < j → L[i] = 0) → (hj : j < L.length) → L[j] ≠ 0 → orL L = L[j] := by
  induction L with
  | nil => intro j _ hj; simp at hj
  | cons x r ih =>
    intro j h hj hne
    cases j with
    | zero => unfold orL; exact if_neg hne
    | succ j =>
      have hx : x = 0 := h 0 (by simp) (by omega)
      unfold orL
      rw [if_pos hx]
      exact ih j (fun i hi hij => h (i + 1) (by simpa using hi) (by omega)) (by simpa using hj) hne
theorem orL_zero (L : List Int) (h : ∀ i (hi : i < L.length), L[i] = 0) : orL L = 0 := by
  induction L with
  | nil => rfl
  | cons x r ih =>
    have hx : x = 0 := h 0 (by simp)
    unfold orL
    rw [if_pos hx]
    exact ih fun i hi => h (i + 1) (by simpa using hi)
set_option maxRecDepth 100000 in
set_option maxHeartbeats 2000000 in
theorem or_any (L : List Int) (b : Nat) (w : World) (hL : L.length ≤ 1000) (h : ∀ j (hj : j < L.length), w.cell? ⟨b, j, none⟩ = some (.int .i64 L[j])) :
    Calls Tryz.prog 146 #[.slice (some ⟨b, 0, none⟩) L.length L.length] w fun e w' => e = .returned (.int .i64 (orL L)) ∧ w' = w := by
  obtain ⟨n, hn⟩ : ∃ n, n = L.length := ⟨_, rfl⟩
  obtain ⟨r, hr⟩ : ∃ r, r = orL L := ⟨_, rfl⟩
  rw [← hr, ← hn]
  rw [← hn] at hL
  have HH := Lib.hid h
  have HN := Lib.hid hn
  have HR := Lib.hid hr
  clear h hn hr
  go_enter Tryz.func146, Tryz.ntmps146
  go_wp2_with fail
  go_loopw [8] (fun i wr => ∃ j : Nat, j ≤ n ∧ i = .int .i64 j ∧ Hid (∀ i (h : i < L.length), i < j → L[i] = 0) ∧ wr = w) (fun i _ => n - (intOf i).toNat)
  case atStart => exact ⟨0, Nat.zero_le _, rfl, Lib.hid (fun _ _ h => absurd h (Nat.not_lt_zero _)), rfl⟩
  case round =>
    obtain ⟨j, hj, rfl, hall, rfl⟩ := hrel
    by_cases hlt : j < n
    · have hj0 : (0 : Int) ≤ (j : Int) := Int.natCast_nonneg _
      have hj1 : (j : Int) < (n : Int) := by omega
      have hjl : j < L.length := by rw [← HN.out]; exact hlt
      have hc := HH.out j hjl
      obtain ⟨x, hx⟩ : ∃ x, x = L[j] := ⟨_, rfl⟩
      rw [← hx] at hc
      have HX := Lib.hid hx
      clear hx
      by_cases h0 : x = 0
      · have HA : Hid (∀ i (h : i < L.length), i < j + 1 → L[i] = 0) := Lib.hid fun i hi hij => by
          by_cases q : i = j
          · subst q; rw [← HX.out]; exact h0
          · exact hall.out i hi (by omega)
        subst h0
        go_wp2_with fail
        go_roundw
        case measure => simp [intOf]; omega
        case rel => exact ⟨j + 1, by omega, by go_num, HA, trivial⟩
      · have HE : Hid (r = x) := Lib.hid (by rw [HR.out, HX.out]; exact orL_take L j hall.out hjl (by rw [← HX.out]; exact h0))
        go_wp2_with fail
        go_ret
        exact ⟨by rw [HE.out]; rfl, rfl⟩
    · obtain rfl : j = n := by omega
      have HE : Hid (r = 0) := Lib.hid (by rw [HR.out]; exact orL_zero L fun i hi => hall.out i hi (by rw [HN.out]; exact hi))
      go_wp2_with fail
      go_ret
      exact ⟨by rw [HE.out]; rfl, rfl⟩
end Go.Proofs.YtlihcjlonafohaaGreat
namespace Go.Proofs.YtlihcjlonafohaaGreat
open Go.Shelf Go.RowKit Go.Lib Go.Sort
def laysSrt_ren : Go.Shelf.Ren := ⟨fun | 6 => 98 | 8 => 117 | 9 => 148 | 19 => 169 | 20 => 170 | 21 => 185 | 22 => 186 | 23 => 187 | 24 => 188 | 25 => 189 | 26 => 190 | 27 => 149 | 28 => 191 | 29 => 192 | 31 => 196 | 32 => 197 | 36 => 211 | 37 => 212 | 38 => 213 | 39 => 118 | 41 => 236 | n => n, fun | 0 => 0 | 3 => 3 | 4 => 4 | 5 => 5 | 9 => 9 | 26 => 34 | 27 => 34 | 29 => 9 | 32 => 175 | 35 => 211 | 36 => 212 | 41 => 46 | 44 => 130 | 46 => 25 | 53 => 240 | 57 => 244 | 63 => 259 | 64 => 260 | n => n, fun | n => n⟩
set_option maxRecDepth 100000 in
theorem laysSrt : Go.Proofs.SlLaysM.n6 Tryz.prog laysSrt_ren := {
  mixed := by kernel_rfl
  f6 := ⟨Tryz.f98.name, by kernel_rfl, Tryz.func98.trans (congrArg some (by kernel_rfl))⟩
  f8 := Tryz.func117.trans (congrArg some (by kernel_rfl))
  f9 := ⟨Tryz.f148.name, by kernel_rfl, Tryz.func148.trans (congrArg some (by kernel_rfl))⟩
  f19 := Tryz.func169.trans (congrArg some (by kernel_rfl))
  f20 := Tryz.func170.trans (congrArg some (by kernel_rfl))
  f21 := ⟨Tryz.f185.name, by kernel_rfl, Tryz.func185.trans (congrArg some (by kernel_rfl))⟩
  f22 := ⟨Tryz.f186.name, by kernel_rfl, Tryz.func186.trans (congrArg some (by kernel_rfl))⟩
  f23 := ⟨Tryz.f187.name, by kernel_rfl, Tryz.func187.trans (congrArg some (by kernel_rfl))⟩
  f24 := ⟨Tryz.f188.name, by kernel_rfl, Tryz.func188.trans (congrArg some (by kernel_rfl))⟩
  f25 := ⟨Tryz.f189.name, by kernel_rfl, Tryz.func189.trans (congrArg some (by kernel_rfl))⟩
  f26 := ⟨Tryz.f190.name, by kernel_rfl, Tryz.func190.trans (congrArg some (by kernel_rfl))⟩
  f27 := ⟨Tryz.f149.name, by kernel_rfl, Tryz.func149.trans (congrArg some (by kernel_rfl))⟩
  f28 := ⟨Tryz.f191.name, by kernel_rfl, Tryz.func191.trans (congrArg some (by kernel_rfl))⟩
  f29 := ⟨Tryz.f192.name, by kernel_rfl, Tryz.func192.trans (congrArg some (by kernel_rfl))⟩
  f31 := Tryz.func196.trans (congrArg some (by kernel_rfl))
  f32 := Tryz.func197.trans (congrArg some (by kernel_rfl))
  f36 := ⟨Tryz.f211.name, by kernel_rfl, Tryz.func211.trans (congrArg some (by kernel_rfl))⟩
  f37 := ⟨Tryz.f212.name, by kernel_rfl, Tryz.func212.trans (congrArg some (by kernel_rfl))⟩
  f38 := ⟨Tryz.f213.name, by kernel_rfl, Tryz.func213.trans (congrArg some (by kernel_rfl))⟩
  f39 := ⟨Tryz.f118.name, by kernel_rfl, Tryz.func118.trans (congrArg some (by kernel_rfl))⟩
  f41 := ⟨Tryz.f236.name, by kernel_rfl, Tryz.func236.trans (congrArg some (by kernel_rfl))⟩
  t0 := Tryz.underlying0
  a0 := Tryz.isAgg0
  z0 := Tryz.sizeOf0
  v0 := Tryz.zeroValue0
  t3 := Tryz.underlying3
  a3 := Tryz.isAgg3
  z3 := Tryz.sizeOf3
  v3 := Tryz.zeroValue3
  t4 := Tryz.underlying4
  a4 := Tryz.isAgg4
  z4 := Tryz.sizeOf4
  v4 := Tryz.zeroValue4
  t5 := Tryz.underlying5
  a5 := Tryz.isAgg5
  z5 := Tryz.sizeOf5
  v5 := Tryz.zeroValue5
  t9 := Tryz.underlying9
  a9 := Tryz.isAgg9
  z9 := Tryz.sizeOf9
  v9 := Tryz.zeroValue9
  t26 := Tryz.underlying34
  a26 := Tryz.isAgg34
  z26 := Tryz.sizeOf34
  v26 := Tryz.zeroValue34
  t27 := Tryz.underlying34
  a27 := Tryz.isAgg34
  z27 := Tryz.sizeOf34
  v27 := Tryz.zeroValue34
  t29 := Tryz.underlying9
  a29 := Tryz.isAgg9
  z29 := Tryz.sizeOf9
  v29 := Tryz.zeroValue9
  t32 := Tryz.underlying175
  a32 := Tryz.isAgg175
  z32 := Tryz.sizeOf175
  v32 := Tryz.zeroValue175
  t35 := Tryz.underlying211
  a35 := Tryz.isAgg211
  z35 := Tryz.sizeOf211
  v35 := Tryz.zeroValue211
  t36 := Tryz.underlying212
  a36 := Tryz.isAgg212
  z36 := Tryz.sizeOf212
  v36 := Tryz.zeroValue212
  t41 := Tryz.underlying46
  a41 := Tryz.isAgg46
  z41 := Tryz.sizeOf46
  v41 := Tryz.zeroValue46
  t44 := Tryz.underlying130
  a44 := Tryz.isAgg130
  z44 := Tryz.sizeOf130
  v44 := Tryz.zeroValue130
  t46 := Tryz.underlying25
  a46 := Tryz.isAgg25
  z46 := Tryz.sizeOf25
  v46 := Tryz.zeroValue25
  t53 := Tryz.underlying240
  a53 := Tryz.isAgg240
  z53 := Tryz.sizeOf240
  v53 := Tryz.zeroValue240
  t57 := Tryz.underlying244
  a57 := Tryz.isAgg244
  z57 := Tryz.sizeOf244
  v57 := Tryz.zeroValue244
  t63 := Tryz.underlying259
  a63 := Tryz.isAgg259
  z63 := Tryz.sizeOf259
  v63 := Tryz.zeroValue259
  t64 := Tryz.underlying260
  a64 := Tryz.isAgg260
  z64 := Tryz.sizeOf260
  v64 := Tryz.zeroValue260 }
end Go.Proofs.YtlihcjlonafohaaGreat
namespace Go.Proofs.YtlihcjlonafohaaGreat

/-- A byte of a name. -/
def nbN (c : Nat) : Bool := decide ((97 ≤ c ∧ c ≤ 122) ∨ (48 ≤ c ∧ c ≤ 57) ∨ c = 46)
def nameL (l : List UInt8) : Bool := decide (1 ≤ l.length ∧ l.length ≤ 32) && l.all fun c => nbN c.toNat
def nameOk (s : ByteArray) : Bool := nameL s.data.toList

structure F where
  name : ByteArray
  kept : ByteArray
  loose : ByteArray
structure O where
  kind : Int
  name : ByteArray
  bytes : ByteArray
  at_ : Int

def F.size (f : F) : Nat := f.kept.size + f.loose.size
def lessS (x y : ByteArray) : Bool := Go.Op.bytesLess x.toList y.toList
/-- Where a file stands: as many as there are, if nowhere. -/
def findF (L : List F) (nm : ByteArray) : Nat := L.findIdx fun f => eqS f.name nm
/-- Where a new one goes. -/
def placeF (L : List F) (nm : ByteArray) : Nat := L.findIdx fun f => !lessS f.name nm
/-- One operation: the error's number (0: none), and the files behind it. -/
def stepAt (L : List F) (o : O) (i : Nat) : Nat × List F :=
  match L[i]? with
  | none =>
    if o.kind = 1 then
      if 64 ≤ L.length then (4, L)
      else if 1048576 < o.bytes.size then (2, L)
      else (0, L.insertIdx (placeF L o.name) ⟨o.name, ⟨#[]⟩, o.bytes⟩)
    else (30, L)
  | some f =>
    if o.kind = 1 then
      if 1048576 < f.size + o.bytes.size then (2, L)
      else (0, L.set i ⟨f.name, f.kept, f.loose ++ o.bytes⟩)
    else if o.kind = 2 then (0, L.set i ⟨f.name, f.kept ++ f.loose, ⟨#[]⟩⟩)
    else if o.kind = 3 then
      if o.at_ < 0 ∨ (f.size : Int) < o.at_ then (1, L)
      else (0, L.set i ⟨f.name, (f.kept ++ f.loose).extract 0 o.at_.toNat, ⟨#[]⟩⟩)
    else (0, L.eraseIdx i)
def badOp (o : O) : Prop := o.kind < 1 ∨ 4 < o.kind ∨ nameOk o.name = false
instance (o : O) : Decidable (badOp o) := inferInstanceAs (Decidable (_ ∨ _ ∨ _))
def step (L : List F) (o : O) : Nat × List F := if badOp o then (1, L) else stepAt L o (findF L o.name)

/-- The list, up to the first that is refused: the files, how many were done, the error's number. -/
def run : List F → List O → List F × Nat × Nat
  | L, [] => (L, 0, 0)
  | L, o :: r => if (step L o).1 = 0 then let x := run (step L o).2 r; (x.1, x.2.1 + 1, x.2.2) else (L, 0, (step L o).1)
/-- Sizes that a machine bears. -/
def FitF (f : F) : Prop := f.name.size ≤ 281474976710656 ∧ f.size ≤ 281474976710656
def Fit (L : List F) : Prop := ∀ f ∈ L, FitF f
theorem Fit.at_ {L : List F} (h : Fit L) {i : Nat} (hi : i < L.length) : FitF L[i] := h _ (List.getElem_mem hi)
theorem Fit.set {L : List F} (h : Fit L) (i : Nat) {f : F} (hf : FitF f) : Fit (L.set i f) := by
  intro g hg
  rcases List.mem_or_eq_of_mem_set hg with h1 | h1
  · exact h g h1
  · subst h1; exact hf
theorem eqS_ne {x y : ByteArray} (h : x ≠ y) : eqS x y = false := by
  rw [Bool.eq_false_iff]
  exact fun e => h (eqS_iff.1 e)
theorem append_nil (s : ByteArray) : s ++ (⟨#[]⟩ : ByteArray) = s := by
  apply ByteArray.ext
  rw [ByteArray.data_append]
  simp
theorem nil_append (s : ByteArray) : (⟨#[]⟩ : ByteArray) ++ s = s := by
  apply ByteArray.ext
  rw [ByteArray.data_append]
  simp
end Go.Proofs.YtlihcjlonafohaaGreat
