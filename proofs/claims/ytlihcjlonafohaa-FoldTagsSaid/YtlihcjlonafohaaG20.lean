/- Texts ValN, FirV, LasV, ValD, ValP, ValQ, Spec, joined. -/
import Derived.Test.YtlihcjlonafohaaG19
import Derived.Test.YtlihcjlonafohaaG15
import Derived.Test.YtlihcjlonafohaaG13
import Derived.Test.YtlihcjlonafohaaG18
/- Walks: value's on. -/
namespace Go.Proofs.Ytlihcjlonafohaa
open Go.RowKit Go.Joins
set_option linter.unusedSimpArgs false
set_option linter.unusedVariables false

/-- The deeds of a kind that none of the kind sk about the same sees. -/
def unsL (kd sk : Int) (D : List DD) : List DD := (kindF kd D).filter fun d => !unsD (seenF (kindF sk D) (kindF sk D).length) sk d
def onB (start : Int) (D : List DD) : Bool := decide (0 < (unsL 7 8 D).length) || (decide (¬ start = 0) && decide ((kindF 8 D).length = 0))
end Go.Proofs.Ytlihcjlonafohaa
/- Walks: value's firm. -/
namespace Go.Proofs.Ytlihcjlonafohaa
open Go.RowKit Go.Joins
set_option linter.unusedSimpArgs false
set_option linter.unusedVariables false

/-- A Firm key's elements: those added, without those of a Remove that no Add of them sees. -/
def firmL (D : List DD) : List ByteArray := (riseT (elemsD (kindF 4 D))).filter fun s => !memS (riseT (elemsD (unsL 5 4 D))) s
theorem kindF_le (k : Int) (D : List DD) : (kindF k D).length ≤ D.length := by
  have := kindF_len k D D.length
  rw [List.take_length] at this
  exact this
theorem unsL_le (a b : Int) (D : List DD) : (unsL a b D).length ≤ D.length := Nat.le_trans (List.length_filter_le _ _) (kindF_le a D)
theorem unsL_mem {a b : Int} {D : List DD} {d : DD} (h : d ∈ unsL a b D) : d ∈ D := kindF_mem (List.mem_filter.1 h).1
theorem Kp.cellNe {g : Nat} {w w' : World} (k : Kp (some g) w w') {p : Addr} {v : Value} (h : w.cell? p = some v) (hne : p.block ≠ g) : w'.cell? p = some v := by
  have hlt : p.block < w.heap.size := by
    rcases Nat.lt_or_ge p.block w.heap.size with c | c
    · exact c
    · have hn : w.heap[p.block]? = none := by simp; omega
      unfold World.cell? at h
      rw [hn] at h
      simp at h
  have hb := k.block p.block hlt (fun e => hne (Option.some.inj e))
  unfold World.cell? at h ⊢
  rw [hb]
  exact h
end Go.Proofs.Ytlihcjlonafohaa
/- Walks: value's last. -/
namespace Go.Proofs.Ytlihcjlonafohaa
open Go.RowKit Go.Joins
set_option linter.unusedSimpArgs false
set_option linter.unusedVariables false

/-- The deed with the greatest stamp, of those the last one. -/
def topN (o : Option DD) (d : DD) : Option DD := match o with | none => some d | some t => if t.t.stamp ≤ d.t.stamp then some d else some t
theorem topN_yes {t d : DD} (h : t.t.stamp ≤ d.t.stamp) : topN (some t) d = some d := if_pos h
theorem topN_no {t d : DD} (h : ¬ t.t.stamp ≤ d.t.stamp) : topN (some t) d = some t := if_neg h
def topD (D : List DD) : Option DD := D.foldl topN none
theorem topD_next {D : List DD} {j : Nat} (h : j < D.length) : topD (D.take (j + 1)) = topN (topD (D.take j)) D[j] := by
  unfold topD
  rw [List.take_succ_eq_append_getElem h, List.foldl_append]
  rfl
theorem topD_mem : ∀ {D : List DD} {t : DD}, topD D = some t → t ∈ D := by
  have h : ∀ (D : List DD) (o : Option DD) {t : DD}, D.foldl topN o = some t → t ∈ D ∨ o = some t := by
    intro D
    induction D with
    | nil => intro o t h; exact .inr h
    | cons d r ih =>
      intro o t h
      rw [List.foldl_cons] at h
      rcases ih _ h with k | k
      · exact .inl (List.mem_cons_of_mem _ k)
      · unfold topN at k
        split at k
        · injection k with k; exact .inl (by rw [k]; simp)
        · split at k
          · injection k with k; exact .inl (by rw [k]; simp)
          · exact .inr k
  intro D t ht
  rcases h D none ht with k | k
  · exact k
  · cases k
/-- How the best one so far lies: none, or a row of one. -/
def TopV (w : World) (s : Value) (o : Option DD) : Prop :=
  match o with
  | none => s = .slice none 0 0
  | some t => ∃ b, s = .slice (some ⟨b, 0, none⟩) 1 1 ∧ DCell w b 0 t
theorem TopV.gr {w w' : World} {s : Value} {o : Option DD} (h : TopV w s o) (g : Gr w w') : TopV w' s o := by
  cases o with
  | none => exact h
  | some t => obtain ⟨b, h1, h2⟩ := h; exact ⟨b, h1, h2.gr g⟩
/-- A Last key's elements. -/
def lastL (D : List DD) : List ByteArray := elemsD (topD (kindF 6 D)).toList
theorem riseT_last (D : List DD) : riseT (elemsD (topD (kindF 6 D)).toList) = lastL D := by
  unfold lastL
  cases topD (kindF 6 D) <;> rfl
end Go.Proofs.Ytlihcjlonafohaa
/- Walks: the value of a counter at a closed cut of logs that may be; the law's awake. -/
namespace Go.Proofs.Ytlihcjlonafohaa
open Go.RowKit Go.Joins

abbrev valv (n : Int) : Array Value := #[.int .i64 n, .slice none 0 0, .bool false]
theorem valbox (w : World) : ∃ W, W = w.alloc (.cells (valv 0) 49) ∧ Gr w W ∧ W.heap[w.heap.size]? = some (.cells (valv 0) 49 (0, 0)) := ⟨_, rfl, (Gr.refl w).alloc _, heap_alloc _ _ _⟩
/-- What a counter's operations add. -/
def opAt (t : TX) (i : Nat) : TO := t.ops.getD i ⟨0, ⟨#[]⟩, ⟨#[]⟩, 0⟩
def netO (x : TX × Nat) : Int := if (opAt x.1 x.2).kind = 1 then (opAt x.1 x.2).n else if (opAt x.1 x.2).kind = 2 then - (opAt x.1 x.2).n else 0
def netP (L : List (TX × Nat)) : Int := (L.map netO).sum
theorem netP_append (a b : List (TX × Nat)) : netP (a ++ b) = netP a + netP b := by unfold netP; rw [List.map_append, List.sum_append]
theorem sumD_take (D : List DD) : ∀ j, j ≤ D.length → sumD D j = ((D.take j).map fun d => d.op.n).sum
  | 0, _ => by simp [sumD]
  | j + 1, h => by
    rw [sumD_next (by omega), sumD_take D j (by omega), List.take_add_one, List.getElem?_eq_getElem (by omega), List.map_append, List.sum_append]
    simp
theorem sumD_all (D : List DD) : sumD D D.length = (D.map fun d => d.op.n).sum := by rw [sumD_take D _ (Nat.le_refl _), List.take_length]
theorem totD_net (start : Int) (D : List DD) : totD start D = start + netP (dsh D) := by
  unfold totD
  rw [sumD_all, sumD_all]
  have h : ∀ D : List DD, ((kindF 1 D).map fun d => d.op.n).sum - ((kindF 2 D).map fun d => d.op.n).sum = netP (dsh D) := by
    intro D
    induction D with
    | nil => rfl
    | cons d r ih =>
      have e : netP (dsh (d :: r)) = netO (d.t, d.i) + netP (dsh r) := by simp [netP, dsh]
      have eo : opAt d.t d.i = d.op := rfl
      rw [e, ← ih]
      unfold kindF netO
      rw [eo]
      by_cases h1 : d.op.kind = 1
      · have h2 : ¬ d.op.kind = 2 := by omega
        simp [h1]
        omega
      · by_cases h2 : d.op.kind = 2
        · simp [h2]
          omega
        · simp [h1, h2]
  have := h D
  omega
/-- What the operations on a key add at a cut. -/
def netV (key : ByteArray) (l : LG) (v : Nat → Nat) : Int := netP (dAll key l v 8)
theorem net_jm (key : ByteArray) (l : LG) (v x : Nat → Nat) : ∀ i, netP (dAll key l (jn v x) i) + netP (dAll key l (mt v x) i) = netP (dAll key l v i) + netP (dAll key l x i)
  | 0 => rfl
  | i + 1 => by
    have ih := net_jm key l v x i
    unfold dAll
    rw [netP_append, netP_append, netP_append, netP_append]
    have e1 : jn v x i = max (v i) (x i) := rfl
    have e2 : mt v x i = min (v i) (x i) := rfl
    rw [e1, e2]
    rcases Nat.le_total (v i) (x i) with h | h
    · rw [Nat.max_eq_right h, Nat.min_eq_left h]; omega
    · rw [Nat.max_eq_left h, Nat.min_eq_right h]; omega
theorem boxesVa (u : Nat → S3) (v : Nat → Nat) (w : World) : ∃ W, W = ((w.alloc (.cells (lcells u) 24)).alloc (.cells (vcells v) 27)).alloc (.cells (valv 0) 49) ∧ Gr w W ∧
    LBox W w.heap.size u ∧ VBox W (w.heap.size + 1) v ∧ W.heap[w.heap.size + 1 + 1]? = some (.cells (valv 0) 49 (0, 0)) := by
  obtain ⟨W, hW, hg, hs, hL, hV⟩ := boxesLV u v w
  rw [← hW]
  have h1 := heap_alloc W (valv 0) 49
  rw [hs] at h1
  exact ⟨_, rfl, hg.alloc _, hL.gr ((Gr.refl _).alloc _), hV.gr ((Gr.refl _).alloc _), h1⟩

def u91 (b : Nat) : Nat → S3 := fun i => if i = 0 then ⟨some ⟨b, 0, none⟩, 1, 1⟩ else ⟨none, 0, 0⟩
theorem lv91 {w : World} {b : Nat} {v : Value} (hx : XFix w b 0 t91 v) (ho : TOV w v t91.ops) : LV w (u91 b) l91 := fun i hi => by
  unfold u91
  by_cases e : i = 0
  · subst e
    rw [if_pos rfl]
    refine ⟨some ⟨b, 0, none⟩, 1, rfl, by decide, ⟨by decide, fun e => by cases e⟩, fun j hj => ⟨b, 0, rfl, ?_⟩⟩
    have hj0 : j = 0 := by
      have : j < 1 := hj
      omega
    subst hj0
    exact ⟨v, ho, hx⟩
  · rw [if_neg e]
    have : l91 i = [] := by unfold l91 addL; rw [if_neg e]; rfl
    rw [this]
    exact XV.nil w
theorem chk91 : checkE l91 = 0 := by kernel_rfl
theorem cls91 : closedB l91 e91 = true := by kernel_rfl
theorem net91 : wrap64 (2 + netV ⟨#[97]⟩ l91 e91) = 7 := by kernel_rfl
theorem fitQ_91 : FitQ l91 := fun i t _ ht => by
  have e : t = t91 := by
    unfold l91 addL nilL at ht
    split at ht
    · simpa using ht
    · cases ht
  subst e
  exact ⟨by decide, fun o ho => by
    have : o = op9 := by simpa [t91] using ho
    subst this
    decide⟩
end Go.Proofs.Ytlihcjlonafohaa
/- Walks: valueOf of each kind. Written by wip/tools/genvo.py. -/
namespace Go.Proofs.Ytlihcjlonafohaa
open Go.RowKit Go.Joins
set_option linter.unusedSimpArgs false
set_option linter.unusedVariables false

/-- A key's value. -/
structure VR where
  n : Int
  e : List ByteArray
  on : Bool
/-- What the deeds make of a key of this kind. -/
def valR (kind start : Int) (D : List DD) : VR :=
  if kind = 1 ∨ kind = 2 then ⟨wrap64 (totD start D), [], false⟩
  else if kind = 3 ∨ kind = 8 then ⟨0, riseT (elemsD (unsL 4 5 D)), false⟩
  else if kind = 4 then ⟨0, firmL D, false⟩
  else if kind = 5 then ⟨0, lastL D, false⟩
  else if kind = 6 then ⟨0, riseT (elemsD (unsL 6 6 D)), false⟩
  else ⟨0, [], onB start D⟩
def RetVal (r : VR) (w : World) (e : Ending) (w' : World) : Prop := ∃ ve, e = .returned (.agg #[.int .i64 r.n, ve, .bool r.on]) ∧ SO w' w.heap.size ve r.e ∧ Gr w w'
theorem SO.set3 {w : World} {B b : Nat} {v : Value} {E : List ByteArray} (h : SO w B v E) (hb : b < B) (x y z : Value) : SO (((w.setCell ⟨b, 0, none⟩ x).setCell ⟨b, 1, none⟩ y).setCell ⟨b, 2, none⟩ z) B v E :=
  World.ownsRow.kept h ((((Kp.refl (some b) w).set (.inr rfl) _ _).set (.inr rfl) _ _).set (.inr rfl) _ _) (.inr fun e => own_far h hb e.symm)
theorem about_fit {D : List DD} (hs : ∀ d ∈ D, d.op.elem.size ≤ 281474976710656) : ∀ d ∈ D, (aboutT d.op).size ≤ maxLen := fun d hd => by
  have := hs d hd
  unfold aboutT
  split
  · exact Nat.zero_le _
  · unfold maxLen; omega

end Go.Proofs.Ytlihcjlonafohaa
/- Walks: Value, of any kind, at any cut of any logs. -/
namespace Go.Proofs.Ytlihcjlonafohaa
open Go.RowKit Go.Joins
set_option linter.unusedSimpArgs false
set_option linter.unusedVariables false

/-- A deed with no place in memory. -/
def toD (x : TX × Nat) : DD := ⟨0, 0, x.1, x.2⟩
def erD (d : DD) : DD := toD (d.t, d.i)
theorem erD_all (D : List DD) : (dsh D).map toD = D.map erD := by
  unfold dsh
  rw [List.map_map]
  rfl
theorem kindF_er (k : Int) (D : List DD) : kindF k (D.map erD) = (kindF k D).map erD := by
  unfold kindF
  rw [List.filter_map]
  rfl
theorem sumD_er (D : List DD) : ∀ j, sumD (D.map erD) j = sumD D j
  | 0 => rfl
  | j + 1 => by
    show sumD (D.map erD) j + _ = sumD D j + _
    rw [sumD_er D j, List.getElem?_map]
    cases D[j]? <;> rfl
theorem totD_er (s : Int) (D : List DD) : totD s (D.map erD) = totD s D := by
  unfold totD
  rw [kindF_er, kindF_er, sumD_er, sumD_er, List.length_map, List.length_map]
theorem seenF_er (L : List DD) : ∀ j, seenF (L.map erD) j = seenF L j
  | 0 => rfl
  | j + 1 => by
    cases h : L[j]? with
    | none =>
      show (match (L.map erD)[j]? with | some d => _ | none => _) = (match L[j]? with | some d => _ | none => _)
      rw [List.getElem?_map, h]
      exact seenF_er L j
    | some d =>
      rw [seenF_at h, seenF_at (L := L.map erD) (d := erD d) (by rw [List.getElem?_map, h]; rfl), seenF_er L j]
      rfl
theorem unsL_er (a b : Int) (D : List DD) : unsL a b (D.map erD) = (unsL a b D).map erD := by
  unfold unsL
  rw [kindF_er, kindF_er, List.length_map, seenF_er, List.filter_map]
  rfl
theorem elemsD_er (D : List DD) : elemsD (D.map erD) = elemsD D := by
  unfold elemsD
  rw [List.map_map]
  rfl
theorem topD_er (D : List DD) : topD (D.map erD) = (topD D).map erD := by
  have h : ∀ (D : List DD) (o : Option DD), (D.map erD).foldl topN (o.map erD) = (D.foldl topN o).map erD := by
    intro D
    induction D with
    | nil => intro o; rfl
    | cons d r ih =>
      intro o
      rw [List.map_cons, List.foldl_cons, List.foldl_cons, ← ih]
      congr 1
      cases o with
      | none => rfl
      | some t =>
        show topN (some (erD t)) (erD d) = _
        by_cases hle : t.t.stamp ≤ d.t.stamp
        · rw [topN_yes hle, topN_yes (t := erD t) (d := erD d) hle]; rfl
        · rw [topN_no hle, topN_no (t := erD t) (d := erD d) hle]; rfl
  exact h D none
theorem valR_er (kind start : Int) (D : List DD) : valR kind start (D.map erD) = valR kind start D := by
  have e1 : firmL (D.map erD) = firmL D := by unfold firmL; rw [kindF_er, unsL_er, elemsD_er, elemsD_er]
  have e2 : lastL (D.map erD) = lastL D := by
    unfold lastL
    rw [kindF_er, topD_er]
    cases topD (kindF 6 D) <;> rfl
  have e3 : onB start (D.map erD) = onB start D := by unfold onB; rw [unsL_er, kindF_er, List.length_map, List.length_map]
  unfold valR
  rw [totD_er, unsL_er, unsL_er, elemsD_er, elemsD_er, e1, e2, e3]
/-- Which error Value answers. -/
def valE (kind : Int) (l : LG) (v : Nat → Nat) : Nat := if kind < 1 ∨ 8 < kind then 100 else if checkE l = 0 then (if closedB l v = true then 0 else 92) else checkE l
/-- A key's value at a closed cut. -/
def valAt (kind start : Int) (l : LG) (v : Nat → Nat) (key : ByteArray) : VR := valR kind start ((dAll key l v 8).map toD)
def valV (kind start : Int) (l : LG) (v : Nat → Nat) (key : ByteArray) : VR := if valE kind l v = 0 then valAt kind start l v key else ⟨0, [], false⟩
def RetValE (r : VR) (k : Nat) (w : World) (e : Ending) (w' : World) : Prop := ∃ ve, e = .returned (.tuple #[.agg #[.int .i64 r.n, ve, .bool r.on], .int .i64 (k : Int)]) ∧ SO w' w.heap.size ve r.e ∧ Gr w w'
theorem dsh_elems {key : ByteArray} {l : LG} {v : Nat → Nat} (hl : OkL l) {D : List DD} (h : dsh D = dAll key l v 8) : ∀ d ∈ D, d.op.elem.size ≤ 32 ∧ d.i < d.t.ops.length := by
  have hmem : ∀ x ∈ dAll key l v 8, ∃ (i : Nat) (_ : i < 8), x.1 ∈ l i ∧ x.2 < x.1.ops.length := by
    have h1 : ∀ (t : TX) j, j ≤ t.ops.length → ∀ x ∈ dTx key t j, x.1 = t ∧ x.2 < t.ops.length := by
      intro t j
      induction j with
      | zero => intro _ x hx; cases hx
      | succ j ih =>
        intro hj x hx
        unfold dTx at hx
        rcases List.mem_append.1 hx with hx | hx
        · exact ih (by omega) x hx
        · split at hx
          · split at hx
            · obtain rfl := List.mem_singleton.1 hx
              exact ⟨rfl, hj⟩
            · cases hx
          · cases hx
    have h2 : ∀ i d, ∀ x ∈ dLog key l i d, x.1 ∈ l i ∧ x.2 < x.1.ops.length := by
      intro i d
      induction d with
      | zero => intro x hx; cases hx
      | succ d ih =>
        intro x hx
        unfold dLog at hx
        rcases List.mem_append.1 hx with hx | hx
        · exact ih x hx
        · split at hx
          · next t ht =>
            obtain ⟨rfl, hlt⟩ := h1 t _ (Nat.le_refl _) x hx
            exact ⟨List.mem_of_getElem? ht, hlt⟩
          · cases hx
    have h3 : ∀ n, n ≤ 8 → ∀ x ∈ dAll key l v n, ∃ (i : Nat) (_ : i < 8), x.1 ∈ l i ∧ x.2 < x.1.ops.length := by
      intro n
      induction n with
      | zero => intro _ x hx; cases hx
      | succ n ih =>
        intro hn x hx
        unfold dAll at hx
        rcases List.mem_append.1 hx with hx | hx
        · exact ih (by omega) x hx
        · exact ⟨n, by omega, h2 n _ x hx⟩
    exact h3 8 (Nat.le_refl _)
  intro d hd
  obtain ⟨i, hi, hm, hlt⟩ := hmem (d.t, d.i) (by rw [← h]; exact List.mem_map.2 ⟨d, hd, rfl⟩)
  obtain ⟨k, hk⟩ := List.mem_iff_getElem?.1 hm
  have hok := (hl.tx i k d.t hi hk).1
  have hop : d.op = d.t.ops[d.i] := by
    unfold DD.op
    rw [List.getD_eq_getElem?_getD, List.getElem?_eq_getElem hlt]
    rfl
  refine ⟨?_, hlt⟩
  rw [hop]
  exact (hok.2.2.2 _ (List.getElem_mem hlt)).2.1
end Go.Proofs.Ytlihcjlonafohaa
/- What the operations of a region leave, each told by a predicate that keeps when boxes change. -/
namespace Go.Proofs.Ytlihcjlonafohaa
open Go.RowKit Go.Joins

/-- The types of which a region's own boxes are. -/
def btV (t : TypeId) : Bool := t == 24 || t == 27 || t == 49 || t == 38
theorem XN.keepsV {w w' : World} {B : Nat} {v : Value} {L : List TX} (h : XN w B v L) (k : Keeps btV w w') : XN w' B v L := by
  obtain ⟨R, h1, h2, h3⟩ := h
  exact ⟨R, h1, own_keeps h2 (by decide) k, fun r hr => own_keeps (h3 r hr) (by decide) k⟩
theorem LN.keepsV {w w' : World} {B : Nat} {u : Nat → S3} {l : LG} (h : LN w B u l) (k : Keeps btV w w') : LN w' B u l := fun i hi => (h i hi).keepsV k
theorem SO.keepsV {w w' : World} {B : Nat} {v : Value} {L : List ByteArray} (h : SO w B v L) (k : Keeps btV w w') : SO w' B v L := own_keeps h (by decide) k
structure Spec where
  P : World → Value → Prop
  st : ∀ y w1 w2, P w1 y → Keeps btV w1 w2 → P w2 y
def Spec.fix (v : Value) : Spec := ⟨fun _ y => y = v, fun _ _ _ h _ => h⟩
def Spec.any : Spec := ⟨fun _ _ => True, fun _ _ _ _ _ => trivial⟩
def Spec.logs (B : Nat) (L : LG) : Spec := ⟨fun w y => ∃ u, y = .agg (lcells u) ∧ LN w B u L, fun _ _ _ ⟨u, h1, h2⟩ k => ⟨u, h1, h2.keepsV k⟩⟩
def Spec.val (B : Nat) (n : Int) (m : Nat) (E : List ByteArray) (on : Bool) : Spec := ⟨fun w y => ∃ A c, y = .agg #[.int .i64 n, .slice A m c, .bool on] ∧ SO w B (.slice A m c) E, fun _ _ _ ⟨A, c, h1, h2⟩ k => ⟨A, c, h1, h2.keepsV k⟩⟩
def Spec.valE (B : Nat) (n : Int) (m : Nat) (E : List ByteArray) (on : Bool) (e : Nat) : Spec := ⟨fun w y => ∃ A c, y = .tuple #[.agg #[.int .i64 n, .slice A m c, .bool on], .int .i64 (e : Int)] ∧ SO w B (.slice A m c) E, fun _ _ _ ⟨A, c, h1, h2⟩ k => ⟨A, c, h1, h2.keepsV k⟩⟩
def Spec.txs (B : Nat) (m : Nat) (L : List TX) : Spec := ⟨fun w y => ∃ A c, y = .slice A m c ∧ XN w B (.slice A m c) L, fun _ _ _ ⟨A, c, h1, h2⟩ k => ⟨A, c, h1, h2.keepsV k⟩⟩
/-- Value's answer, its parts named. -/
theorem RetValE.form {r : VR} {k : Nat} {w : World} {e : Ending} {w' : World} (h : RetValE r k w e w') : ∃ A c, e = .returned (.tuple #[.agg #[.int .i64 r.n, .slice A r.e.length c, .bool r.on], .int .i64 (k : Int)]) ∧ SO w' w.heap.size (.slice A r.e.length c) r.e ∧ Gr w w' := by
  obtain ⟨ve, h1, h2, h3⟩ := h
  obtain ⟨A, c, hv, -, -⟩ := own_form h2
  subst hv
  exact ⟨A, c, h1, h2, h3⟩
end Go.Proofs.Ytlihcjlonafohaa
