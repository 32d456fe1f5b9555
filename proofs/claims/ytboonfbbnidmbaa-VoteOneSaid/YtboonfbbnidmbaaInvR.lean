/- A region that draws its order, by an invariant: each operation is walked once, whatever came ahead of it. It names no program. -/
import Derived.Deep.QuietTactic
import Derived.Deep.Light
import Derived.WalkKit
import Derived.Orders
import Derived.Lib.Hide
namespace Go.Proofs.Ytboonfbbnidmbaa

/-- What the operations have left, each in its place; none: not yet carried out. -/
abbrev Vals := Nat → Option Value
def Vals.up (vals : Vals) (i : Nat) (v : Value) : Vals := fun k => if k = i then some v else vals k
theorem Vals.up_at (vals : Vals) (i : Nat) (v : Value) : vals.up i v i = some v := if_pos rfl
theorem Vals.up_ne (vals : Vals) {i k : Nat} (v : Value) (h : k ≠ i) : vals.up i v k = vals k := if_neg h
def putV (a : Act) (o : Oper) : Option Value → Act
  | some v => a.put o.dst v
  | none => a
/-- The state behind those that were carried out, written in the text's order. -/
def putAll : List Oper → Nat → Vals → Act → Act
  | [], _, _, a => a
  | o :: r, k, vals, a => putAll r (k + 1) vals (putV a o (vals k))
def dstApart (o p : Oper) : Bool := match o.dst with | none => true | some d => decide (p.dst ≠ some d)
theorem put_comm9 {a : Act} {o p : Oper} {v u : Value} (h : dstApart o p = true) : (a.put o.dst v).put p.dst u = (a.put p.dst u).put o.dst v := by
  unfold dstApart at h
  cases ho : o.dst with
  | none => rfl
  | some d =>
    rw [ho] at h
    cases hp : p.dst with
    | none => rfl
    | some e =>
      have hne : d ≠ e := fun q => by
        rw [hp] at h
        have := of_decide_eq_true h
        exact this (by rw [q])
      show Act.mk ((a.tmps.setIfInBounds d v).setIfInBounds e u) a.defers = Act.mk ((a.tmps.setIfInBounds e u).setIfInBounds d v) a.defers
      rw [Array.setIfInBounds_comm _ _ hne]
theorem putV_put {a : Act} {o p : Oper} {v : Value} {x : Option Value} (h : dstApart o p = true) : putV (a.put o.dst v) p x = (putV a p x).put o.dst v := by
  cases x with
  | none => rfl
  | some u => exact put_comm9 h
theorem putAll_put {o : Oper} {v : Value} : ∀ (l : List Oper) (k : Nat) (vals : Vals) (a : Act), (∀ p ∈ l, dstApart o p = true) → putAll l k vals (a.put o.dst v) = (putAll l k vals a).put o.dst v
  | [], _, _, _, _ => rfl
  | p :: r, k, vals, a, h => by
    show putAll r (k + 1) vals (putV (a.put o.dst v) p (vals k)) = _
    rw [putV_put (h p (by simp)), putAll_put r (k + 1) vals _ fun q hq => h q (by simp [hq])]
    rfl
theorem putAll_congr : ∀ (l : List Oper) (k : Nat) (vals vals' : Vals) (a : Act), (∀ j, k ≤ j → vals j = vals' j) → putAll l k vals a = putAll l k vals' a
  | [], _, _, _, _, _ => rfl
  | p :: r, k, vals, vals', a, h => by
    show putAll r (k + 1) vals (putV a p (vals k)) = putAll r (k + 1) vals' (putV a p (vals' k))
    rw [h k (Nat.le_refl _), putAll_congr r (k + 1) vals vals' _ fun j hj => h j (by omega)]
theorem putAll_up {o : Oper} {v : Value} : ∀ (l : List Oper) (k i : Nat) (vals : Vals) (a : Act), l[i]? = some o → vals (k + i) = none → l.Pairwise (fun o p => dstApart o p = true) → putAll l k (vals.up (k + i) v) a = (putAll l k vals a).put o.dst v
  | [], _, _, _, _, h, _, _ => by simp at h
  | p :: r, k, 0, vals, a, h, hn, hp => by
    injection h with h
    subst h
    show putAll r (k + 1) (vals.up k v) (putV a p (vals.up k v k)) = (putAll r (k + 1) vals (putV a p (vals k))).put p.dst v
    rw [Vals.up_at, show vals k = none from hn, putAll_congr r (k + 1) _ vals _ fun j hj => Vals.up_ne vals v (by omega)]
    exact putAll_put r (k + 1) vals a (List.pairwise_cons.1 hp).1
  | p :: r, k, i + 1, vals, a, h, hn, hp => by
    have e : k + (i + 1) = k + 1 + i := by omega
    rw [e] at hn ⊢
    show putAll r (k + 1) (vals.up (k + 1 + i) v) (putV a p (vals.up (k + 1 + i) v k)) = (putAll r (k + 1) vals (putV a p (vals k))).put o.dst v
    rw [Vals.up_ne vals v (by omega)]
    exact putAll_up r (k + 1) i vals _ h hn (List.pairwise_cons.1 hp).2
theorem put_size (a : Act) (d : Option Tmp) (v : Value) : (a.put d v).tmps.size = a.tmps.size := by
  cases d <;> simp [Act.put]
theorem putV_size (a : Act) (o : Oper) (x : Option Value) : (putV a o x).tmps.size = a.tmps.size := by
  cases x with
  | none => rfl
  | some v => exact put_size a o.dst v
theorem putV_other {a : Act} {o : Oper} {x : Option Value} {t : Nat} (h : o.dst ≠ some t) : (putV a o x).tmps.getD t undef = a.tmps.getD t undef := by
  cases x with
  | none => rfl
  | some v =>
    show (a.put o.dst v).tmps.getD t undef = _
    cases hd : o.dst with
    | none => rfl
    | some d =>
      have hne : d ≠ t := fun e => h (by rw [hd, e])
      show (a.tmps.setIfInBounds d v).getD t undef = _
      simp [Array.getD_eq_getD_getElem?, hne]
theorem putAll_other {t : Nat} : ∀ (l : List Oper) (k : Nat) (vals : Vals) (a : Act), (∀ o ∈ l, o.dst ≠ some t) → (putAll l k vals a).tmps.getD t undef = a.tmps.getD t undef
  | [], _, _, _, _ => rfl
  | p :: r, k, vals, a, h => by
    show (putAll r (k + 1) vals (putV a p (vals k))).tmps.getD t undef = _
    rw [putAll_other r (k + 1) vals _ fun o ho => h o (by simp [ho]), putV_other (h p (by simp))]
theorem putAll_at {o : Oper} {d : Nat} {v : Value} : ∀ (l : List Oper) (k i : Nat) (vals : Vals) (a : Act), l[i]? = some o → o.dst = some d → vals (k + i) = some v → l.Pairwise (fun o p => dstApart o p = true) → d < a.tmps.size → (putAll l k vals a).tmps.getD d undef = v
  | [], _, _, _, _, h, _, _, _, _ => by simp at h
  | p :: r, k, 0, vals, a, h, hd, hv, hp, hs => by
    injection h with h
    subst h
    show (putAll r (k + 1) vals (putV a p (vals k))).tmps.getD d undef = v
    rw [putAll_other r (k + 1) vals _ fun q hq => by
      have := (List.pairwise_cons.1 hp).1 q hq
      unfold dstApart at this
      rw [hd] at this
      exact of_decide_eq_true this, show vals k = some v from hv]
    show (a.put p.dst v).tmps.getD d undef = v
    rw [hd]
    show (a.tmps.setIfInBounds d v).getD d undef = v
    simp [Array.getD_eq_getD_getElem?, hs]
  | p :: r, k, i + 1, vals, a, h, hd, hv, hp, hs => by
    have e : k + (i + 1) = k + 1 + i := by omega
    rw [e] at hv
    exact putAll_at r (k + 1) i vals _ h hd hv (List.pairwise_cons.1 hp).2 (by rw [putV_size]; exact hs)
/-- How many of the first n are not yet carried out. -/
def openN (vals : Vals) : Nat → Nat
  | 0 => 0
  | n + 1 => openN vals n + (if (vals n).isNone then 1 else 0)
theorem openN_up {vals : Vals} {i : Nat} {v : Value} (hn : vals i = none) : ∀ n, i < n → openN vals n = openN (vals.up i v) n + 1
  | 0, h => by omega
  | n + 1, h => by
    unfold openN
    by_cases e : i = n
    · subst e
      have same : ∀ m, m ≤ i → openN (vals.up i v) m = openN vals m := fun m hm => by
        induction m with
        | zero => rfl
        | succ m ih =>
          unfold openN
          rw [ih (by omega), Vals.up_ne vals v (by omega)]
      rw [same i (Nat.le_refl _), Vals.up_at, hn]
      simp
    · rw [openN_up (v := v) hn n (by omega), Vals.up_ne vals v (fun q => e q.symm)]
      omega
theorem openN_zero {vals : Vals} : ∀ {n : Nat}, openN vals n = 0 → ∀ i, i < n → (vals i).isSome = true
  | 0, _, i, hi => by omega
  | n + 1, h, i, hi => by
    unfold openN at h
    by_cases e : i = n
    · subst e
      cases hv : vals i with
      | none => rw [hv] at h; simp at h
      | some v => rfl
    · exact openN_zero (n := n) (by omega) i (by omega)
theorem openN_some {vals : Vals} : ∀ {n : Nat}, 0 < openN vals n → ∃ i, i < n ∧ vals i = none ∧ ∀ j, j < i → (vals j).isSome = true
  | 0, h => by simp [openN] at h
  | n + 1, h => by
    rcases Nat.eq_zero_or_pos (openN vals n) with e | e
    · unfold openN at h
      rw [e] at h
      refine ⟨n, Nat.lt_succ_self _, ?_, openN_zero e⟩
      cases hv : vals n with
      | none => rfl
      | some v => rw [hv] at h; simp at h
    · obtain ⟨i, h1, h2, h3⟩ := openN_some e
      exact ⟨i, by omega, h2, h3⟩
/-- Each waits for earlier ones alone, and no two leave their values in one place. -/
def inTextB (l : List Oper) : Bool :=
  ((List.range l.length).all fun i => match l[i]? with | some o => o.after.all fun e => !(Region.binds .any e) || decide (e.on < i) | none => true) && decide (l.Pairwise fun o p => dstApart o p = true)
section
variable {P : Program} {Q : Exit → Act → World → Prop} {l : List Oper} {a0 : Act}
theorem iAny (I : Vals → World → Prop) (hB : inTextB l = true)
    (hstep : ∀ i o, l[i]? = some o → ∀ vals w, I vals w → vals i = none → (∀ e ∈ o.after, Region.binds .any e = true → ∃ v, vals e.on = some v) →
      wpOp P l.toArray Q i (fun a' w' => ∃ v, a' = (putAll l 0 vals a0).put o.dst v ∧ I (vals.up i v) w') (putAll l 0 vals a0) w)
    (hend : ∀ vals w, (∀ i, i < l.length → (vals i).isSome = true) → I vals w → Q .normal (putAll l 0 vals a0) w) :
    ∀ (fuel : Nat) (done : Array Bool) (vals : Vals) (w : World), done.size = l.length → (∀ k, k < l.length → done[k]? = some (vals k).isSome) → openN vals l.length = fuel → I vals w →
      wpAny P .any l.toArray Q fuel done (putAll l 0 vals a0) w := by
  unfold inTextB at hB
  rw [Bool.and_eq_true, decide_eq_true_eq, List.all_eq_true] at hB
  obtain ⟨hlex, hpw⟩ := hB
  intro fuel
  induction fuel with
  | zero =>
    intro done vals w hs hd hf hI
    have hall := openN_zero hf
    refine ⟨?_, hend vals w hall hI⟩
    rw [List.eq_nil_iff_forall_not_mem]
    intro j hj
    obtain ⟨h1, o, ho, _⟩ := mem_ready.1 hj
    have hlt : j < l.length := by simpa using (Array.getElem?_eq_some_iff.1 ho).1
    rw [Array.getD_eq_getD_getElem?, hd j hlt, hall j hlt] at h1
    simp at h1
  | succ fuel ih =>
    intro done vals w hs hd hf hI
    refine ⟨fun h0 => ?_, fun i hi => ?_⟩
    · exfalso
      obtain ⟨i, h1, h2, h3⟩ := openN_some (vals := vals) (n := l.length) (by omega)
      have ho : l.toArray[i]? = some l[i] := by simp [h1]
      have : i ∈ Region.ready .any l.toArray done := by
        refine mem_ready.2 ⟨?_, l[i], ho, fun e he hb => ?_⟩
        · rw [Array.getD_eq_getD_getElem?, hd i h1, h2]; rfl
        · have hq := hlex i (List.mem_range.2 h1)
          rw [show l[i]? = some l[i] by simp [h1]] at hq
          simp only [Array.all_eq_true'] at hq
          have hq2 := hq e he
          rw [hb] at hq2
          have hlt : e.on < i := of_decide_eq_true hq2
          rw [Array.getD_eq_getD_getElem?, hd _ (by omega), h3 _ hlt]; rfl
      rw [h0] at this
      cases this
    · obtain ⟨h1, o, ho, h2⟩ := mem_ready.1 hi
      have hlt : i < l.length := by simpa using (Array.getElem?_eq_some_iff.1 ho).1
      have ho' : l[i]? = some o := by simpa using ho
      have hn : vals i = none := by
        rw [Array.getD_eq_getD_getElem?, hd i hlt] at h1
        cases hv : vals i with
        | none => rfl
        | some v => rw [hv] at h1; simp at h1
      refine wpOp_mono (fun a' w' hh => ?_) (hstep i o ho' vals w hI hn fun e he hb => ?_)
      · obtain ⟨v, rfl, hI'⟩ := hh
        have e1 := putAll_up (v := v) l 0 i vals a0 ho' (by rw [Nat.zero_add]; exact hn) hpw
        rw [Nat.zero_add] at e1
        rw [← e1]
        refine ih _ (vals.up i v) w' (by simpa using hs) (fun k hk => ?_) ?_ hI'
        · by_cases e : k = i
          · subst e
            rw [Vals.up_at]
            simp [hs, hlt]
          · rw [Vals.up_ne vals v e, Array.getElem?_setIfInBounds, if_neg (fun q => e q.symm)]
            exact hd k hk
        · have := openN_up (v := v) hn l.length hlt
          omega
      · have := h2 e he hb
        have hq := hlex i (List.mem_range.2 hlt)
        rw [ho'] at hq
        simp only [Array.all_eq_true'] at hq
        have hq2 := hq e he
        rw [hb] at hq2
        have hlt2 : e.on < i := of_decide_eq_true hq2
        rw [Array.getD_eq_getD_getElem?, hd _ (by omega)] at this
        cases hv : vals e.on with
        | none => rw [hv] at this; simp at this
        | some v => exact ⟨v, rfl⟩
/-- An operation that leaves the value v, in the world w'. -/
theorem aVal {ops : Array Oper} {i : Nat} {o : Oper} {A : Act} {w w' : World} {v : Value} {K : Act → World → Prop} (ho : ops[i]? = some o) (hg : o.guard = none)
    (hr : (execOp A.eval o).run P w = .ok (.value v) w') (h : K (A.put o.dst v) w') : wpOp P ops Q i K A w := by
  have hw : Region.wanted o (yielded ops A.tmps) = true := by simp [Region.wanted, hg]
  unfold wpOp
  simp only [ho, hw, if_true, Oper.wp, hr, Oper.upon]
  exact .inl h
/-- An operation that leaves none, a store say. -/
theorem aSkip {ops : Array Oper} {i : Nat} {o : Oper} {A : Act} {w w' : World} {K : Act → World → Prop} (ho : ops[i]? = some o) (hg : o.guard = none)
    (hr : (execOp A.eval o).run P w = .ok .skip w') (h : K (A.put o.dst undef) w') : wpOp P ops Q i K A w := by
  have hw : Region.wanted o (yielded ops A.tmps) = true := by simp [Region.wanted, hg]
  unfold wpOp
  simp only [ho, hw, if_true, Oper.wp, hr, Oper.upon]
  exact .inl h
/-- A call, by its contract. -/
theorem aCall {ops : Array Oper} {i : Nat} {o : Oper} {A : Act} {w w1 : World} {f : FuncId} {args : Array Value} {K : Act → World → Prop} (ho : ops[i]? = some o) (hg : o.guard = none)
    (hr : (execOp A.eval o).run P w = .ok (.enter f args) w1) (h : Calls P f args w1 fun e w' => ∃ v, e = .returned v ∧ K (A.put o.dst v) w') : wpOp P ops Q i K A w := by
  have hw : Region.wanted o (yielded ops A.tmps) = true := by simp [Region.wanted, hg]
  unfold wpOp
  simp only [ho, hw, if_true, Oper.wp, hr, Oper.upon]
  refine .inl (h.mono ?_)
  rintro e w' ⟨v, rfl, hi⟩
  exact hi
theorem openN_none : ∀ n, openN (fun _ => none) n = n
  | 0 => rfl
  | n + 1 => by unfold openN; rw [openN_none n]; rfl
theorem putAll_none : ∀ (l : List Oper) (k : Nat) (a : Act), putAll l k (fun _ => none) a = a
  | [], _, _ => rfl
  | _ :: r, k, a => putAll_none r (k + 1) a
/-- A region that draws its order, by an invariant. -/
theorem iRegion {id : Nat} {w0 : World} (I : Vals → World → Prop) (hm : P.follows .mixedOrders = true) (hB : inTextB l = true) (h0 : I (fun _ => none) w0.drew)
    (hstep : ∀ i o, l[i]? = some o → ∀ vals w, I vals w → vals i = none → (∀ e ∈ o.after, Region.binds .any e = true → ∃ v, vals e.on = some v) →
      wpOp P l.toArray Q i (fun a' w' => ∃ v, a' = (putAll l 0 vals a0).put o.dst v ∧ I (vals.up i v) w') (putAll l 0 vals a0) w)
    (hend : ∀ vals w, (∀ i, i < l.length → (vals i).isSome = true) → I vals w → Q .normal (putAll l 0 vals a0) w) :
    (Code.region id l.toArray true).wp P Q a0 w0 := by
  refine wp_region_any hm ?_
  have h := iAny (P := P) (Q := Q) (l := l) (a0 := a0) I hB hstep hend l.length (Array.replicate l.length false) (fun _ => none) w0.drew (by simp) (fun k hk => by simp [hk]) (openN_none _) h0
  rw [putAll_none] at h
  simpa using h
/-- The same, the state behind the operations that came ahead being told by its places alone. -/
theorem iRegionA {id : Nat} {w0 : World} (I : Vals → World → Prop) (hm : P.follows .mixedOrders = true) (hB : inTextB l = true) (h0 : I (fun _ => none) w0.drew)
    (hstep : ∀ i o, l[i]? = some o → ∀ (vals : Vals) (w : World) (A : Act), I vals w → vals i = none → (∀ e ∈ o.after, Region.binds .any e = true → ∃ v, vals e.on = some v) →
      (∀ t, (l.all fun o => decide (o.dst ≠ some t)) = true → A.eval (.tmp t) = a0.tmps.getD t undef) →
      (∀ (j d : Nat) (p : Oper) (v : Value), l[j]? = some p → p.dst = some d → decide (d < a0.tmps.size) = true → vals j = some v → A.eval (.tmp d) = v) →
      wpOp P l.toArray Q i (fun a' w' => ∃ v, a' = A.put o.dst v ∧ I (vals.up i v) w') A w)
    (hend : ∀ vals w, (∀ i, i < l.length → ∃ v, vals i = some v) → I vals w → Q .normal (putAll l 0 vals a0) w) :
    (Code.region id l.toArray true).wp P Q a0 w0 := by
  have hB2 := hB
  unfold inTextB at hB2
  rw [Bool.and_eq_true, decide_eq_true_eq] at hB2
  refine iRegion I hm hB h0 (fun i o ho vals w hI hn hd => hstep i o ho vals w _ hI hn hd (fun t ht => ?_) fun j d p v hj hd2 hs hv => ?_) fun vals w hall hI => hend vals w (fun i hi => Option.isSome_iff_exists.1 (hall i hi)) hI
  · exact putAll_other l 0 vals a0 fun o ho => of_decide_eq_true (List.all_eq_true.1 ht o ho)
  · exact putAll_at l 0 j vals a0 hj hd2 (by rw [Nat.zero_add]; exact hv) hB2.2 (of_decide_eq_true hs)
end
end Go.Proofs.Ytboonfbbnidmbaa
