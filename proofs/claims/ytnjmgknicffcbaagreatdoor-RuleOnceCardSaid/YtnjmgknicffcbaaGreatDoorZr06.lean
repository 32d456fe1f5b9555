/- Mathematics of logs: when they may be, closed cuts, joins. Arguments opened: rows of structs, and how long they are. The arguments of the laws of transactions: operations, transactions, lists of them: what they read as, and how long they are. -/
import Derived.Test.YtnjmgknicffcbaaGreatDoorZr05
import Derived.Test.YtnjmgknicffcbaaGreatDoorZr01
import Derived.Deep.Slices
import Derived.Deep.Fields
import Derived.ChangeSame
import Derived.SizedLaws
import Derived.OpenShut
import Derived.Test.YtnjmgknicffcbaaGreatDoorZr02
namespace Go.Proofs.YtnjmgknicffcbaaGreatDoor

abbrev LG := Nat → List TX
def sizeV (l : LG) : Nat → Nat := fun i => (l i).length
def lastS (l : LG) (v : Nat → Nat) (i : Nat) : Nat := if v i = 0 then 0 else match (l i)[v i - 1]? with | some t => t.stamp | none => 0
def stampTo (l : LG) (v : Nat → Nat) : Nat → Nat
  | 0 => 0
  | k + 1 => max (stampTo l v k) (lastS l v k)
/-- The stamp of a cut. -/
def stampV (l : LG) (v : Nat → Nat) : Nat := stampTo l v 8
def behindE (l : LG) (t : TX) : Nat := if leqB t.deps (sizeV l) = true then (if t.stamp ≤ stampV l t.deps then 80 else 0) else 90
def txE (l : LG) (i k : Nat) (t : TX) : Nat := if okTx t ∧ t.origin = (i : Int) ∧ t.seq = k + 1 then behindE l t else 80
def txAt (l : LG) (i k : Nat) : Nat := match (l i)[k]? with | some t => txE l i k t | none => 0
def logTo (l : LG) (i : Nat) : Nat → Nat
  | 0 => 0
  | k + 1 => if logTo l i k = 0 then txAt l i k else logTo l i k
def logsTo (l : LG) : Nat → Nat
  | 0 => 0
  | i + 1 => if logsTo l i = 0 then logTo l i (l i).length else logsTo l i
def longB (l : LG) : Bool := (List.range 8).any fun i => decide (1024 < (l i).length)
/-- What Check answers. -/
def checkE (l : LG) : Nat := if longB l = true then 2 else logsTo l 8
theorem longB_yes {l : LG} {i : Nat} (hi : i < 8) (h : 1024 < (l i).length) : longB l = true := by
  unfold longB
  rw [List.any_eq_true]
  exact ⟨i, List.mem_range.2 hi, decide_eq_true h⟩
theorem longB_no {l : LG} (h : ∀ i, i < 8 → (l i).length ≤ 1024) : longB l = false := by
  unfold longB
  rw [List.any_eq_false]
  intro i hi
  have := h i (List.mem_range.1 hi)
  simp only [decide_eq_true_eq]
  omega
theorem longB_le {l : LG} (h : longB l = false) {i : Nat} (hi : i < 8) : (l i).length ≤ 1024 := by
  rcases Nat.lt_or_ge 1024 (l i).length with h1 | h1
  · rw [longB_yes hi h1] at h; cases h
  · exact h1
theorem logTo_stay {l : LG} {i k e : Nat} (h : logTo l i k = e) (he : e ≠ 0) (d : Nat) : logTo l i (k + d) = e := by
  induction d with
  | zero => exact h
  | succ d ih =>
    have e1 : logTo l i (k + (d + 1)) = if logTo l i (k + d) = 0 then txAt l i (k + d) else logTo l i (k + d) := rfl
    rw [e1, ih, if_neg he]
theorem logsTo_stay {l : LG} {i e : Nat} (h : logsTo l i = e) (he : e ≠ 0) (d : Nat) : logsTo l (i + d) = e := by
  induction d with
  | zero => exact h
  | succ d ih =>
    have e1 : logsTo l (i + (d + 1)) = if logsTo l (i + d) = 0 then logTo l (i + d) (l (i + d)).length else logsTo l (i + d) := rfl
    rw [e1, ih, if_neg he]
theorem logTo_next {l : LG} {i k : Nat} (h : logTo l i k = 0) : logTo l i (k + 1) = txAt l i k := by
  show (if _ = 0 then _ else _) = _
  rw [if_pos h]
theorem logsTo_next {l : LG} {i : Nat} (h : logsTo l i = 0) : logsTo l (i + 1) = logTo l i (l i).length := by
  show (if _ = 0 then _ else _) = _
  rw [if_pos h]
theorem txAt_at {l : LG} {i k : Nat} {t : TX} (h : (l i)[k]? = some t) : txAt l i k = txE l i k t := by unfold txAt; rw [h]
/-- The first fault is told. -/
theorem checkE_at {l : LG} {i k e : Nat} {t : TX} (hl : longB l = false) (hi : i < 8) (ht : (l i)[k]? = some t) (h0 : logsTo l i = 0) (h1 : logTo l i k = 0) (h2 : txE l i k t = e) (he : e ≠ 0) : checkE l = e := by
  have hk : k < (l i).length := (List.getElem?_eq_some_iff.1 ht).1
  have e1 : logTo l i (k + 1) = e := by rw [logTo_next h1, txAt_at ht, h2]
  have e2 := logTo_stay e1 he ((l i).length - (k + 1))
  rw [show k + 1 + ((l i).length - (k + 1)) = (l i).length by omega] at e2
  have e3 : logsTo l (i + 1) = e := by rw [logsTo_next h0, e2]
  have e4 := logsTo_stay e3 he (8 - (i + 1))
  rw [show i + 1 + (8 - (i + 1)) = 8 by omega] at e4
  unfold checkE
  rw [hl]
  exact e4
theorem logTo_zero {l : LG} {i n : Nat} (h : logTo l i n = 0) : ∀ k t, k < n → (l i)[k]? = some t → txE l i k t = 0 := by
  induction n with
  | zero => intro k t hk; omega
  | succ n ih =>
    have h1 : logTo l i n = 0 := by
      rcases Nat.eq_zero_or_pos (logTo l i n) with e | e
      · exact e
      · have : logTo l i (n + 1) = logTo l i n := by show (if _ = 0 then _ else _) = _; rw [if_neg (by omega)]
        omega
    intro k t hk ht
    by_cases e : k = n
    · subst e
      rw [← txAt_at ht, ← logTo_next h1, h]
    · exact ih h1 k t (by omega) ht
theorem logTo_of {l : LG} {i n : Nat} (h : ∀ k t, k < n → (l i)[k]? = some t → txE l i k t = 0) : logTo l i n = 0 := by
  induction n with
  | zero => rfl
  | succ n ih =>
    rw [logTo_next (ih fun k t hk => h k t (by omega))]
    unfold txAt
    split
    · next t ht => exact h n t (by omega) ht
    · rfl
theorem logsTo_zero {l : LG} {n : Nat} (h : logsTo l n = 0) : ∀ i, i < n → logTo l i (l i).length = 0 := by
  induction n with
  | zero => intro i hi; omega
  | succ n ih =>
    have h1 : logsTo l n = 0 := by
      rcases Nat.eq_zero_or_pos (logsTo l n) with e | e
      · exact e
      · have : logsTo l (n + 1) = logsTo l n := by show (if _ = 0 then _ else _) = _; rw [if_neg (by omega)]
        omega
    intro i hi
    by_cases e : i = n
    · subst e; rw [← logsTo_next h1, h]
    · exact ih h1 i (by omega)
theorem logsTo_of {l : LG} {n : Nat} (h : ∀ i, i < n → logTo l i (l i).length = 0) : logsTo l n = 0 := by
  induction n with
  | zero => rfl
  | succ n ih => rw [logsTo_next (ih fun i hi => h i (by omega))]; exact h n (by omega)
/-- Logs may be. -/
structure OkL (l : LG) : Prop where
  len : ∀ i, i < 8 → (l i).length ≤ 1024
  tx : ∀ i k t, i < 8 → (l i)[k]? = some t → okTx t ∧ t.origin = (i : Int) ∧ t.seq = k + 1 ∧ leqB t.deps (sizeV l) = true ∧ stampV l t.deps < t.stamp
theorem txE_zero {l : LG} {i k : Nat} {t : TX} : txE l i k t = 0 ↔ okTx t ∧ t.origin = (i : Int) ∧ t.seq = k + 1 ∧ leqB t.deps (sizeV l) = true ∧ stampV l t.deps < t.stamp := by
  unfold txE behindE
  by_cases h : okTx t ∧ t.origin = (i : Int) ∧ t.seq = k + 1
  · rw [if_pos h]
    by_cases h2 : leqB t.deps (sizeV l) = true
    · rw [if_pos h2]
      by_cases h3 : t.stamp ≤ stampV l t.deps
      · rw [if_pos h3]
        exact ⟨fun e => by omega, fun ⟨_, _, _, _, e⟩ => by omega⟩
      · rw [if_neg h3]
        exact ⟨fun _ => ⟨h.1, h.2.1, h.2.2, h2, by omega⟩, fun _ => rfl⟩
    · rw [if_neg h2]
      exact ⟨fun e => by omega, fun ⟨_, _, _, e, _⟩ => absurd e h2⟩
  · rw [if_neg h]
    exact ⟨fun e => by omega, fun ⟨a, b, c, _⟩ => absurd ⟨a, b, c⟩ h⟩
theorem okL_iff {l : LG} : checkE l = 0 ↔ OkL l := by
  refine ⟨fun h => ?_, fun h => ?_⟩
  · unfold checkE at h
    rcases hl : longB l with _ | _
    · rw [hl] at h
      refine ⟨fun i hi => longB_le hl hi, fun i k t hi ht => txE_zero.1 ?_⟩
      exact logTo_zero (logsTo_zero h i hi) k t (List.getElem?_eq_some_iff.1 ht).1 ht
    · rw [hl, if_pos rfl] at h
      omega
  · unfold checkE
    rw [longB_no h.len]
    exact logsTo_of fun i hi => logTo_of fun k t _ ht => txE_zero.2 (h.tx i k t hi ht)
theorem le_stampTo {l : LG} {v : Nat → Nat} {n i : Nat} (hi : i < n) : lastS l v i ≤ stampTo l v n := by
  induction n with
  | zero => omega
  | succ n ih =>
    show _ ≤ max _ _
    by_cases e : i = n
    · subst e; omega
    · have := ih (by omega)
      omega
theorem le_stampV {l : LG} {v : Nat → Nat} {i : Nat} (hi : i < 8) : lastS l v i ≤ stampV l v := le_stampTo hi
theorem lastS_at {l : LG} {v : Nat → Nat} {i d : Nat} {t : TX} (hv : v i = d + 1) (ht : (l i)[d]? = some t) : lastS l v i = t.stamp := by
  unfold lastS
  rw [if_neg (by omega), show v i - 1 = d by omega, ht]
theorem lq {a b : Nat → Nat} (h : leqB a b = true) {i : Nat} (hi : i < 8) : a i ≤ b i := leqB_iff.1 h i hi
theorem lq_of {a b : Nat → Nat} (h : ∀ i, i < 8 → a i ≤ b i) : leqB a b = true := leqB_iff.2 h
theorem lq_trans {a b c : Nat → Nat} (h : leqB a b = true) (k : leqB b c = true) : leqB a c = true := lq_of fun _ hi => Nat.le_trans (lq h hi) (lq k hi)
theorem lq_refl (a : Nat → Nat) : leqB a a = true := lq_of fun _ _ => Nat.le_refl _
theorem OkL.own {l : LG} (h : OkL l) {i k : Nat} {t : TX} (hi : i < 8) (ht : (l i)[k]? = some t) : t.deps i = k := by
  obtain ⟨h1, h2, h3, _⟩ := h.tx i k t hi ht
  have := h1.1.2.2.2.2
  rw [h2, h3] at this
  simpa using this
/-- Stamps rise within a log. -/
theorem OkL.rise {l : LG} (h : OkL l) {i k : Nat} {t u : TX} (hi : i < 8) (ht : (l i)[k]? = some t) (hu : (l i)[k + 1]? = some u) : t.stamp < u.stamp := by
  have h1 := h.own hi hu
  have h2 := (h.tx i (k + 1) u hi hu).2.2.2.2
  have h3 := le_stampV (l := l) (v := u.deps) hi
  rw [lastS_at h1 ht] at h3
  omega
/-- What a transaction depends on has a smaller stamp. -/
theorem OkL.before {l : LG} (h : OkL l) {i j k d : Nat} {t u : TX} (hi : i < 8) (hj : j < 8) (ht : (l i)[k]? = some t) (hu : (l j)[d]? = some u) (hd : t.deps j = d + 1) : u.stamp < t.stamp := by
  have h2 := (h.tx i k t hi ht).2.2.2.2
  have h3 := le_stampV (l := l) (v := t.deps) hj
  rw [lastS_at hd hu] at h3
  omega
/-- The cut is within the logs, and closed. -/
def closedP (l : LG) (v : Nat → Nat) : Prop := leqB v (sizeV l) = true ∧ ∀ i k t, i < 8 → k < v i → (l i)[k]? = some t → leqB t.deps v = true
def closedB (l : LG) (v : Nat → Nat) : Bool := leqB v (sizeV l) && (List.range 8).all fun i => ((l i).take (v i)).all fun t => leqB t.deps v
theorem closedB_iff {l : LG} {v : Nat → Nat} : closedB l v = true ↔ closedP l v := by
  unfold closedB closedP
  rw [Bool.and_eq_true, List.all_eq_true]
  refine and_congr_right fun _ => ⟨fun h i k t hi hk ht => ?_, fun h i hi => ?_⟩
  · have := h i (List.mem_range.2 hi)
    rw [List.all_eq_true] at this
    exact this t (List.mem_of_getElem? (i := k) (by rw [List.getElem?_take_of_lt hk]; exact ht))
  · rw [List.all_eq_true]
    intro t ht
    obtain ⟨k, hk⟩ := List.mem_iff_getElem?.1 ht
    rcases Nat.lt_or_ge k (v i) with hlt | hge
    · rw [List.getElem?_take_of_lt hlt] at hk
      exact h i k t (List.mem_range.1 hi) hlt hk
    · rw [List.getElem?_eq_none (by rw [List.length_take]; omega)] at hk
      cases hk
/-- c is the greatest closed cut within v. -/
structure IsClose (l : LG) (v c : Nat → Nat) : Prop where
  closed : closedP l c
  within : leqB c v = true
  great : ∀ u, closedP l u → leqB u v = true → leqB u c = true
/-- The logs' beginnings. -/
def pre (l : LG) (c : Nat → Nat) : LG := fun i => (l i).take (c i)
/-- Of each member the longer log. -/
def jnL (a b : LG) : LG := fun i => if (a i).length < (b i).length then b i else a i
end Go.Proofs.YtnjmgknicffcbaaGreatDoor
namespace Go.Proofs.YtnjmgknicffcbaaGreatDoor
open Go.ChangeShapes Go.WideShapes Go.RowKit Go.Deep

theorem list_of {α : Type} {R : Nat → α → Prop} : ∀ n, (∀ i, i < n → ∃ x, R i x) → ∃ L : List α, L.length = n ∧ ∀ j (hj : j < L.length), R j L[j]
  | 0, _ => ⟨[], rfl, fun j hj => absurd hj (by simp)⟩
  | n + 1, h => by
    obtain ⟨L, hl, hr⟩ := list_of n (fun i hi => h i (by omega))
    obtain ⟨x, hx⟩ := h n (Nat.lt_succ_self n)
    refine ⟨L ++ [x], by rw [List.length_append, hl]; rfl, fun j hj => ?_⟩
    rw [List.length_append, List.length_singleton, hl] at hj
    by_cases e : j < L.length
    · rw [List.getElem_append_left e]; exact hr j e
    · obtain rfl : j = n := by omega
      rw [List.getElem_append_right (by omega)]
      simp only [hl, Nat.sub_self, List.getElem_cons_zero]
      exact hx
theorem weightsAll_mem {H : Type} {P : Program} {e : TypeId} {d : DataW H} {l : List (DataW H)} (h : d ∈ l) {n : Nat} (hn : n ∈ DataW.weights P e d) : n ∈ DataW.weightsAll P e l := by
  induction l with
  | nil => cases h
  | cons x r ih =>
    simp only [DataW.weightsAll, List.mem_append]
    rcases List.mem_cons.1 h with rfl | h
    · exact .inl hn
    · exact .inr (ih h)
/-- The first element's place says that the slice lies in cells. -/
theorem spot_of {w : World} {base k : Nat} {a : Addr} {len : Nat} {R : Nat → List Value → Prop} (hk : 0 < k) (hi : ∀ i, i < len → ∃ cs, w.cells? base (a.add (i * k)) k = some cs ∧ R i cs) (h0 : 0 < len) : a.spot = none := by
  obtain ⟨cs, hc, _⟩ := hi 0 h0
  obtain ⟨_, hl, hat⟩ := World.cells?_some hc
  have h := hat 0 hk
  rw [List.getElem?_eq_getElem (show 0 < cs.length by omega)] at h
  have := World.cell?_spot h
  simpa [Addr.add] using this
theorem reach_is : reachBytes = 140737488351232 := rfl
end Go.Proofs.YtnjmgknicffcbaaGreatDoor
namespace Go.Proofs.YtnjmgknicffcbaaGreatDoor
open Go.ChangeShapes Go.WideShapes Go.RowKit Go.Deep

theorem cellsTOp : Tryz.prog.cellsOf 52 = 4 := by kernel_rfl
theorem cellsTx : Tryz.prog.cellsOf 47 = 12 := by kernel_rfl
theorem cellsTVec : Tryz.prog.cellsOf 28 = 8 := by kernel_rfl
theorem cellsTInt : Tryz.prog.cellsOf 3 = 1 := by kernel_rfl
theorem cellsTI64 : Tryz.prog.cellsOf 2 = 1 := by kernel_rfl
theorem cellsTU64 : Tryz.prog.cellsOf 26 = 1 := by kernel_rfl
theorem cellsTStr : Tryz.prog.cellsOf 9 = 1 := by kernel_rfl
theorem cellsTOps : Tryz.prog.cellsOf 45 = 1 := by kernel_rfl
theorem bytesTOp : Tryz.prog.bytesOf 52 = 48 := by kernel_rfl
theorem bytesTx : Tryz.prog.bytesOf 47 = 112 := by kernel_rfl
theorem list_of8 {α : Type} (l : List α) (h : l.length = 8) : ∃ a b c d e f g i, l = [a, b, c, d, e, f, g, i] := by
  match l, h with
  | [a, b, c, d, e, f, g, i], _ => exact ⟨a, b, c, d, e, f, g, i, rfl⟩
theorem list_of12 {α : Type} (l : List α) (h : l.length = 12) : ∃ a b c d e f g i j k m n, l = [a, b, c, d, e, f, g, i, j, k, m, n] := by
  match l, h with
  | [a, b, c, d, e, f, g, i, j, k, m, n], _ => exact ⟨a, b, c, d, e, f, g, i, j, k, m, n, rfl⟩
/-- What an operation's parts may be. -/
def FitTO (o : TO) : Prop := (-9223372036854775808 ≤ o.kind ∧ o.kind ≤ 9223372036854775807) ∧ (-9223372036854775808 ≤ o.n ∧ o.n ≤ 9223372036854775807) ∧ o.key.size ≤ 281474976710656 ∧ o.elem.size ≤ 281474976710656
/-- What a transaction's parts may be. -/
structure FitX (t : TX) : Prop where
  origin : -9223372036854775808 ≤ t.origin ∧ t.origin ≤ 9223372036854775807
  seq : t.seq < 18446744073709551616
  stamp : t.stamp < 18446744073709551616
  deps : ∀ k, k < 8 → t.deps k < 18446744073709551616
  ops : ∀ o ∈ t.ops, FitTO o
  len : (t.ops.length + 1) * 48 ≤ 140737488355328

section
variable {H : Type} {enc : TypeId × Value → H} {W : World} {base : Nat} {v : Value} {d : DataW H} {p : List MemPlace}
set_option maxRecDepth 100000 in
theorem trod_top {B : Nat} {sp : Nat → Bool} {hd : Bool} {m : Nat} {cs : List Value} {x : DataW H × List MemPlace} (hl : cs.length = 4) (hf : DataW.trod enc Tryz.prog W B sp hd m 52 cs = some x) (hw : ∀ q ∈ DataW.weights Tryz.prog 52 x.1, q ≤ reachBytes) :
    ∃ o : TO, cs = tocell o ∧ FitTO o := by
  obtain ⟨ys, n, _, hx, _, hyl, hg⟩ := DataW.trod_struct Tryz.underlying52 hf
  match cs, hl with
  | [c0, c1, c2, c3], _ =>
    match ys, hyl with
    | [y0, y1, y2, y3], _ =>
      have h0 := hg 0 ({ name := "Kind", type := 3, offset := 0, embedded := false, tag := "", pkgPath := "", byteOffset := 0 } : Field) rfl
      have h1 := hg 1 ({ name := "Key", type := 9, offset := 1, embedded := false, tag := "", pkgPath := "", byteOffset := 8 } : Field) rfl
      have h2 := hg 2 ({ name := "Elem", type := 9, offset := 2, embedded := false, tag := "", pkgPath := "", byteOffset := 24 } : Field) rfl
      have h3 := hg 3 ({ name := "N", type := 2, offset := 3, embedded := false, tag := "", pkgPath := "", byteOffset := 40 } : Field) rfl
      have h0' : DataW.trod enc Tryz.prog W B sp hd n 3 [c0] = some y0 := by simpa [cellsTInt] using h0
      have h1' : DataW.trod enc Tryz.prog W B sp hd n 9 [c1] = some y1 := by simpa [cellsTStr] using h1
      have h2' : DataW.trod enc Tryz.prog W B sp hd n 9 [c2] = some y2 := by simpa [cellsTStr] using h2
      have h3' : DataW.trod enc Tryz.prog W B sp hd n 2 [c3] = some y3 := by simpa [cellsTI64] using h3
      simp only [List.map_cons, List.map_nil] at hx
      obtain ⟨z0, hz0, _, w0⟩ := DataW.trod_int Tryz.underlying3 h0'
      obtain ⟨s1, hz1, hy1, _⟩ := DataW.trod_string Tryz.underlying9 h1'
      obtain ⟨s2, hz2, hy2, _⟩ := DataW.trod_string Tryz.underlying9 h2'
      obtain ⟨z3, hz3, _, w3⟩ := DataW.trod_int Tryz.underlying2 h3'
      injection hz0 with hz0
      injection hz1 with hz1
      injection hz2 with hz2
      injection hz3 with hz3
      subst hz0 hz1 hz2 hz3
      have b0 := bounds_i64 w0
      have b3 := bounds_i64 w3
      have hq1 := hw s1.data.toList.length (by
        rw [hx]
        simp only [DataW.weights, Tryz.underlying52]
        refine DataW.weights_mem_each (j := 1) (t := 9) (d := .lit (.string s1.data.toList)) rfl ?_ _ ?_
        · rw [hy1]; rfl
        · simp [DataW.weights])
      have hq2 := hw s2.data.toList.length (by
        rw [hx]
        simp only [DataW.weights, Tryz.underlying52]
        refine DataW.weights_mem_each (j := 2) (t := 9) (d := .lit (.string s2.data.toList)) rfl ?_ _ ?_
        · rw [hy2]; rfl
        · simp [DataW.weights])
      rw [Array.length_toList, reach_is] at hq1 hq2
      exact ⟨⟨z0, s1, s2, z3⟩, rfl, ⟨by simp only []; omega, by simp only []; omega⟩, ⟨by simp only []; omega, by simp only []; omega⟩, by change s1.size ≤ _ at hq1; simp only []; omega, by change s2.size ≤ _ at hq2; simp only []; omega⟩
theorem cells_at {w : World} {B : Nat} {a : Addr} {k : Nat} {cs : List Value} (hc : w.cells? B a k = some cs) (j : Nat) (hj : j < k) : w.cell? (a.add j) = cs[j]? := by
  obtain ⟨_, hl, hat⟩ := World.cells?_some hc
  exact hat j hj
set_option maxRecDepth 100000 in
/-- A slice of operations in a cell. -/
theorem trod_tops {m : Nat} {c : Value} {x : DataW H × List MemPlace} (hf : DataW.trod enc Tryz.prog W 0 (fun _ => true) true m 45 [c] = some x) (hw : ∀ q ∈ DataW.weights Tryz.prog 45 x.1, q ≤ reachBytes) :
    ∃ L : List TO, TOV W c L ∧ (∀ o ∈ L, FitTO o) ∧ (L.length + 1) * 48 ≤ 140737488355328 := by
  rcases open_slice Tryz.underlying45 hf with ⟨hcs, _⟩ | ⟨a, len, cap, m2, n, D, Pl, hcs, _, hl, hm, hmm, hx, hi⟩
  · injection hcs with hcs
    rw [hcs]
    exact ⟨[], TOV.nil W, (fun o ho => by cases ho), by decide⟩
  · injection hcs with hcs
    rw [hcs]
    simp only [if_true] at hmm
    subst hmm
    rw [cellsTOp] at hi
    rw [hx] at hw
    have hle := hw ((((List.range len).map D).length + ((List.range (m2 - len)).map fun j => D (len + j)).length) * Tryz.prog.bytesOf 52) (by
      simp only [DataW.weights, Tryz.underlying45]; exact List.mem_cons_self ..)
    rw [bytesTOp, List.length_map, List.length_range, reach_is] at hle
    have hel : ∀ i, i < len → ∀ q ∈ DataW.weights Tryz.prog 52 (D i), q ≤ reachBytes := fun i hil q hq => hw q (by
      simp only [DataW.weights, Tryz.underlying45]
      exact List.mem_cons_of_mem _ (List.mem_append.2 (.inl (weightsAll_mem (List.mem_map_of_mem (List.mem_range.2 hil)) hq))))
    have hsp : 0 < len → a.spot = none := fun h0 => spot_of (by decide) hi (show 0 < m2 by omega)
    have hex : ∀ i, i < len → ∃ o : TO, (∃ b off, a = ⟨b, off, none⟩ ∧ TCell W b (off + i * 4) o) ∧ FitTO o := fun i hil => by
      obtain ⟨cs', hc, ht⟩ := hi i (by omega)
      obtain ⟨_, hl4, _⟩ := World.cells?_some hc
      obtain ⟨o, rfl, ho⟩ := trod_top hl4 ht (hel i hil)
      have c0 := cells_at hc 0 (by decide)
      have c1 := cells_at hc 1 (by decide)
      have c2 := cells_at hc 2 (by decide)
      have c3 := cells_at hc 3 (by decide)
      obtain ⟨b, off, spot⟩ := a
      have hspot : spot = none := hsp (by omega)
      subst hspot
      rw [add_plain, add_plain] at c0 c1 c2 c3
      exact ⟨o, ⟨b, off, rfl, c0, c1, c2, c3⟩, ho⟩
    obtain ⟨L, hL, hall⟩ := list_of len hex
    refine ⟨L, ⟨some a, m2, by rw [hL], by omega, ⟨hm, fun h => by cases h⟩, fun j hj => ?_⟩, fun o ho => ?_, by rw [hL]; omega⟩
    · obtain ⟨⟨b, off, ha, hc⟩, _⟩ := hall j hj
      exact ⟨b, off, by rw [ha], hc⟩
    · obtain ⟨j, hj, rfl⟩ := List.mem_iff_getElem.1 ho
      exact (hall j hj).2
set_option maxRecDepth 100000 in
/-- A transaction's cells. -/
theorem trod_tx {m : Nat} {cs : List Value} {x : DataW H × List MemPlace} (hl : cs.length = 12) (hf : DataW.trod enc Tryz.prog W 0 (fun _ => true) true m 47 cs = some x) (hw : ∀ q ∈ DataW.weights Tryz.prog 47 x.1, q ≤ reachBytes) :
    ∃ (t : TX) (u : Value), cs = (tcs t u).toList ∧ TOV W u t.ops ∧ FitX t := by
  obtain ⟨ys, n, _, hx, _, hyl, hg⟩ := DataW.trod_struct Tryz.underlying47 hf
  obtain ⟨c0, c1, c2, d0, d1, d2, d3, d4, d5, d6, d7, c4, rfl⟩ := list_of12 cs hl
  match ys, hyl with
  | [y0, y1, y2, y3, y4], _ =>
    have h0 := hg 0 ({ name := "Origin", type := 3, offset := 0, embedded := false, tag := "", pkgPath := "", byteOffset := 0 } : Field) rfl
    have h1 := hg 1 ({ name := "Seq", type := 26, offset := 1, embedded := false, tag := "", pkgPath := "", byteOffset := 8 } : Field) rfl
    have h2 := hg 2 ({ name := "Stamp", type := 26, offset := 2, embedded := false, tag := "", pkgPath := "", byteOffset := 16 } : Field) rfl
    have h3 := hg 3 ({ name := "Deps", type := 28, offset := 3, embedded := false, tag := "", pkgPath := "", byteOffset := 24 } : Field) rfl
    have h4 := hg 4 ({ name := "Ops", type := 45, offset := 11, embedded := false, tag := "", pkgPath := "", byteOffset := 88 } : Field) rfl
    have h0' : DataW.trod enc Tryz.prog W 0 (fun _ => true) true n 3 [c0] = some y0 := by simpa [cellsTInt] using h0
    have h1' : DataW.trod enc Tryz.prog W 0 (fun _ => true) true n 26 [c1] = some y1 := by simpa [cellsTU64] using h1
    have h2' : DataW.trod enc Tryz.prog W 0 (fun _ => true) true n 26 [c2] = some y2 := by simpa [cellsTU64] using h2
    have h3' : DataW.trod enc Tryz.prog W 0 (fun _ => true) true n 28 [d0, d1, d2, d3, d4, d5, d6, d7] = some y3 := by simpa [cellsTVec] using h3
    have h4' : DataW.trod enc Tryz.prog W 0 (fun _ => true) true n 45 [c4] = some y4 := by simpa [cellsTOps] using h4
    simp only [List.map_cons, List.map_nil] at hx
    have one : ∀ (m : Nat) (c : Value) (y : DataW H × List MemPlace), DataW.trod enc Tryz.prog W 0 (fun _ => true) true m 26 [c] = some y → ∃ n : Nat, c = .int .u64 (n : Int) ∧ n < 18446744073709551616 := fun m c y hy => by
      obtain ⟨x, e, _, w⟩ := DataW.trod_int Tryz.underlying26 hy
      have b := bounds_u64 w
      obtain ⟨n, rfl⟩ := Int.eq_ofNat_of_zero_le b.1
      exact ⟨n, by simpa using e, by omega⟩
    obtain ⟨z0, hz0, _, w0⟩ := DataW.trod_int Tryz.underlying3 h0'
    injection hz0 with hz0
    subst hz0
    have b0 := bounds_i64 w0
    obtain ⟨sq, rfl, hsq⟩ := one _ _ _ h1'
    obtain ⟨st, rfl, hst⟩ := one _ _ _ h2'
    obtain ⟨xs, m', rfl, hx2, hl2, hxl, hall⟩ := DataW.trod_array Tryz.underlying28 h3'
    obtain ⟨x0, x1, x2, x3, x4, x5, x6, x7, rfl⟩ := list_of8 xs hxl
    rw [cellsTU64] at hall
    obtain ⟨n0, rfl, e0⟩ := one _ d0 x0 (hall 0 (by decide))
    obtain ⟨n1, rfl, e1⟩ := one _ d1 x1 (hall 1 (by decide))
    obtain ⟨n2, rfl, e2⟩ := one _ d2 x2 (hall 2 (by decide))
    obtain ⟨n3, rfl, e3⟩ := one _ d3 x3 (hall 3 (by decide))
    obtain ⟨n4, rfl, e4⟩ := one _ d4 x4 (hall 4 (by decide))
    obtain ⟨n5, rfl, e5⟩ := one _ d5 x5 (hall 5 (by decide))
    obtain ⟨n6, rfl, e6⟩ := one _ d6 x6 (hall 6 (by decide))
    obtain ⟨n7, rfl, e7⟩ := one _ d7 x7 (hall 7 (by decide))
    obtain ⟨L, hv, ho, hlen⟩ := trod_tops h4' (fun q hq => hw q (by
      rw [hx]
      simp only [DataW.weights, Tryz.underlying47]
      exact DataW.weights_mem_each (j := 4) (t := 45) (d := y4.1) rfl rfl q hq))
    refine ⟨⟨z0, sq, st, fun k => match k with | 0 => n0 | 1 => n1 | 2 => n2 | 3 => n3 | 4 => n4 | 5 => n5 | 6 => n6 | _ => n7, L⟩, c4, rfl, hv, ⟨⟨by simp only []; omega, by simp only []; omega⟩, hsq, hst, fun k hk => ?_, ho, hlen⟩⟩
    match k, hk with
    | 0, _ => exact e0
    | 1, _ => exact e1
    | 2, _ => exact e2
    | 3, _ => exact e3
    | 4, _ => exact e4
    | 5, _ => exact e5
    | 6, _ => exact e6
    | 7, _ => exact e7
set_option maxRecDepth 100000 in
/-- A slice of transactions in a cell. -/
theorem trod_txs {m : Nat} {c : Value} {x : DataW H × List MemPlace} (hf : DataW.trod enc Tryz.prog W 0 (fun _ => true) true m 23 [c] = some x) (hw : ∀ q ∈ DataW.weights Tryz.prog 23 x.1, q ≤ reachBytes) :
    ∃ L : List TX, XV W c L ∧ (∀ t ∈ L, FitX t) ∧ (L.length + 1) * 112 ≤ 140737488355328 := by
  rcases open_slice Tryz.underlying23 hf with ⟨hcs, _⟩ | ⟨a, len, cap, m2, n, D, Pl, hcs, _, hl, hm, hmm, hx, hi⟩
  · injection hcs with hcs
    rw [hcs]
    exact ⟨[], ⟨none, 0, rfl, Nat.le_refl _, ⟨Nat.zero_le _, fun _ => rfl⟩, fun j hj => absurd hj (by simp)⟩, (fun o ho => by cases ho), by decide⟩
  · injection hcs with hcs
    rw [hcs]
    simp only [if_true] at hmm
    subst hmm
    rw [cellsTx] at hi
    rw [hx] at hw
    have hle := hw ((((List.range len).map D).length + ((List.range (m2 - len)).map fun j => D (len + j)).length) * Tryz.prog.bytesOf 47) (by
      simp only [DataW.weights, Tryz.underlying23]; exact List.mem_cons_self ..)
    rw [bytesTx, List.length_map, List.length_range, reach_is] at hle
    have hel : ∀ i, i < len → ∀ q ∈ DataW.weights Tryz.prog 47 (D i), q ≤ reachBytes := fun i hil q hq => hw q (by
      simp only [DataW.weights, Tryz.underlying23]
      exact List.mem_cons_of_mem _ (List.mem_append.2 (.inl (weightsAll_mem (List.mem_map_of_mem (List.mem_range.2 hil)) hq))))
    have hsp : 0 < len → a.spot = none := fun h0 => spot_of (by decide) hi (show 0 < m2 by omega)
    have hex : ∀ i, i < len → ∃ t : TX, (∃ b off, a = ⟨b, off, none⟩ ∧ XCell W b (off + i * 12) t) ∧ FitX t := fun i hil => by
      obtain ⟨cs', hc, ht⟩ := hi i (by omega)
      obtain ⟨_, hl12, _⟩ := World.cells?_some hc
      obtain ⟨t, u, rfl, hv, hft⟩ := trod_tx hl12 ht (hel i hil)
      have hat := fun j hj => cells_at hc j hj
      obtain ⟨b, off, spot⟩ := a
      have hspot : spot = none := hsp (by omega)
      subst hspot
      have at2 : ∀ j, j < 12 → W.cell? ⟨b, off + i * 12 + j, none⟩ = (tcs t u).toList[j]? := fun j hj => by
        have := hat j hj
        rw [add_plain, add_plain] at this
        exact this
      exact ⟨t, ⟨b, off, rfl, u, hv, at2 0 (by decide), at2 1 (by decide), at2 2 (by decide), at2 3 (by decide), at2 4 (by decide), at2 5 (by decide), at2 6 (by decide), at2 7 (by decide), at2 8 (by decide), at2 9 (by decide), at2 10 (by decide), at2 11 (by decide)⟩, hft⟩
    obtain ⟨L, hL, hall⟩ := list_of len hex
    refine ⟨L, ⟨some a, m2, by rw [hL], by omega, ⟨hm, fun h => by cases h⟩, fun j hj => ?_⟩, fun o ho => ?_, by rw [hL]; omega⟩
    · obtain ⟨⟨b, off, ha, hc⟩, _⟩ := hall j hj
      exact ⟨b, off, by rw [ha], hc⟩
    · obtain ⟨j, hj, rfl⟩ := List.mem_iff_getElem.1 ho
      exact (hall j hj).2
end
end Go.Proofs.YtnjmgknicffcbaaGreatDoor
