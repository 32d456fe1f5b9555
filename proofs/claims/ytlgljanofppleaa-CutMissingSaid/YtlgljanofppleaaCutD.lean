/- Rows of transactions; walks: slices.Clone of operations and of transactions; the program's Copy of a transaction. -/
import Derived.Test.YtlgljanofppleaaCutC
import Derived.Test.YtlgljanofppleaaTxCp
import Derived.Test.YtlgljanofppleaaCln
import Derived.Test.YtlgljanofppleaaQTail
import Derived.Lib.SliceRun
namespace Go.Proofs.Ytlgljanofppleaa
open Go.RowKit Go.Joins

/-- The list's places from o on hold cs. -/
def setFrom (xs : List Value) : Nat → List Value → List Value
  | _, [] => xs
  | o, u :: r => setFrom (xs.set o u) (o + 1) r
def putCells (w : World) (g : Nat) : Nat → List Value → World
  | _, [] => w
  | o, u :: r => putCells (w.setCell ⟨g, o, none⟩ u) g (o + 1) r
theorem setFrom_at : ∀ (cs : List Value) (xs : List Value) (o j : Nat), o + cs.length ≤ xs.length → (setFrom xs o cs)[j]? = if o ≤ j ∧ j < o + cs.length then cs[j - o]? else xs[j]?
  | [], xs, o, j, _ => by rw [if_neg (by simp only [List.length_nil]; omega)]; rfl
  | u :: r, xs, o, j, h => by
    rw [List.length_cons] at h
    show (setFrom (xs.set o u) (o + 1) r)[j]? = _
    rw [setFrom_at r (xs.set o u) (o + 1) j (by rw [List.length_set]; omega), List.length_cons]
    by_cases e : j = o
    · subst e
      rw [if_neg (by omega), if_pos (by omega), Nat.sub_self, List.getElem?_set_self (by omega)]
      rfl
    · by_cases h2 : o + 1 ≤ j ∧ j < o + 1 + r.length
      · rw [if_pos h2, if_pos (by omega), show j - o = (j - (o + 1)) + 1 by omega]
        rfl
      · rw [if_neg h2, if_neg (by omega), List.getElem?_set_ne (fun q => e q.symm)]
theorem setFrom_rows {α : Type} (f : α → List Value) (k : Nat) (hf : ∀ x, (f x).length = k) (hk : 0 < k) (L : List α) (i : Nat) (hi : i < L.length) (y : α) : setFrom (L.flatMap f) (i * k) (f y) = (L.set i y).flatMap f := by
  have hl := rows_len f k hf L
  have hik : i * k + k ≤ L.length * k := by
    have := Nat.mul_le_mul_right k hi
    rw [Nat.succ_mul] at this
    exact this
  refine List.ext_getElem? fun j => ?_
  rw [setFrom_at (f y) _ _ _ (by rw [hf, hl]; exact hik), hf]
  rcases Nat.lt_or_ge j (L.length * k) with hj | hj
  · have hq : j / k < L.length := by rw [Nat.div_lt_iff_lt_mul hk]; exact hj
    have hr := Nat.mod_lt j hk
    have hd := Nat.div_add_mod j k
    rw [Nat.mul_comm] at hd
    have e1 : ((L.set i y).flatMap f)[j]? = (f ((L.set i y)[j / k]'(by rw [List.length_set]; exact hq)))[j % k]? := by
      rw [← rows_at f k hf (L.set i y) (j / k) (j % k) (by rw [List.length_set]; exact hq) hr, hd]
    have e2 : (L.flatMap f)[j]? = (f L[j / k])[j % k]? := by rw [← rows_at f k hf L (j / k) (j % k) hq hr, hd]
    rw [e1, e2]
    by_cases e : j / k = i
    · have hji : j = i * k + j % k := by rw [← e]; exact hd.symm
      rw [if_pos (by omega)]
      have : (L.set i y)[j / k]'(by rw [List.length_set]; exact hq) = y := by
        subst e
        exact List.getElem_set_self _
      rw [this]
      congr 1
      omega
    · have hne : ¬ (i * k ≤ j ∧ j < i * k + k) := fun h => e (by
        have h1 : j < (i + 1) * k := by rw [Nat.succ_mul]; omega
        have h2 := (Nat.div_lt_iff_lt_mul hk).2 h1
        have h3 := (Nat.le_div_iff_mul_le hk).2 h.1
        omega)
      rw [if_neg hne]
      have : (L.set i y)[j / k]'(by rw [List.length_set]; exact hq) = L[j / k] := List.getElem_set_ne (fun q => e q.symm) _
      rw [this]
  · rw [if_neg (by omega), List.getElem?_eq_none (by rw [hl]; exact hj), List.getElem?_eq_none (by rw [rows_len f k hf, List.length_set]; exact hj)]
theorem own_putCells {B : Nat} {t : TypeId} {size g n c : Nat} : ∀ (cs : List Value) (o : Nat) (w : World) (xs : List Value), w.ownsRow B t size (.slice (some ⟨g, 0, none⟩) n c) n xs →
    (putCells w g o cs).ownsRow B t size (.slice (some ⟨g, 0, none⟩) n c) n (setFrom xs o cs) ∧ Kp (some g) w (putCells w g o cs)
  | [], o, w, xs, h => ⟨h, Kp.refl _ _⟩
  | u :: r, o, w, xs, h => by
    obtain ⟨h1, h2⟩ := h.stored o u
    obtain ⟨h3, h4⟩ := own_putCells r (o + 1) _ _ h1
    exact ⟨h3, Kp.trans h2 h4⟩
/-- A transaction and where its operations lie. -/
abbrev TR := TX × S3
def trcells (r : TR) : List Value := (tcs r.1 r.2.v).toList
theorem trcells_len (r : TR) : (trcells r).length = 12 := rfl
def trs (R : List TR) : List Value := R.flatMap trcells
theorem trs_len (R : List TR) : (trs R).length = R.length * 12 := rows_len trcells 12 trcells_len R
theorem trs_one (R : List TR) : ∀ u ∈ trs R, u.oneCell' = true := by
  intro u hu
  obtain ⟨o, _, hu⟩ := List.mem_flatMap.1 hu
  unfold trcells at hu
  simp only [List.mem_cons, List.not_mem_nil, or_false] at hu
  rcases hu with rfl | rfl | rfl | rfl | rfl | rfl | rfl | rfl | rfl | rfl | rfl | rfl <;> rfl
def texts (R : List TR) : List TX := R.map (·.1)
/-- Each transaction's operations lie where they should. -/
def TOs (w : World) (R : List TR) : Prop := ∀ r ∈ R, TOV w r.2.v r.1.ops
theorem TOs.gr {w w' : World} {R : List TR} (h : TOs w R) (g : Gr w w') : TOs w' R := fun r hr => (h r hr).gr g
theorem xfix_at {w : World} {b off j : Nat} {R : List TR} (hj : j < R.length) (h : ∀ i u, (trs R)[i]? = some u → w.cell? ⟨b, off + i, none⟩ = some u) : XFix w b (off + j * 12) R[j].1 R[j].2.v := by
  have at_ : ∀ r u, r < 12 → (trcells R[j])[r]? = some u → w.cell? ⟨b, off + j * 12 + r, none⟩ = some u := fun r u hr hu => by
    rw [Nat.add_assoc]
    exact h _ u (by rw [show trs R = R.flatMap trcells from rfl, rows_at trcells 12 trcells_len R j r hj hr]; exact hu)
  exact ⟨at_ 0 _ (by decide) rfl, at_ 1 _ (by decide) rfl, at_ 2 _ (by decide) rfl, at_ 3 _ (by decide) rfl, at_ 4 _ (by decide) rfl, at_ 5 _ (by decide) rfl, at_ 6 _ (by decide) rfl, at_ 7 _ (by decide) rfl, at_ 8 _ (by decide) rfl, at_ 9 _ (by decide) rfl, at_ 10 _ (by decide) rfl, at_ 11 _ (by decide) rfl⟩
theorem xv_of_sl {w : World} {v : Value} {R : List TR} (h : SL w 12 v R.length (trs R)) (ho : TOs w R) : XV w v (texts R) := by
  obtain ⟨A, c, hv, h1, h2, h3, h4⟩ := h
  refine ⟨A, c, by unfold texts; rw [List.length_map]; exact hv, by unfold texts; rw [List.length_map]; exact h1, h2, fun j hj => ?_⟩
  unfold texts at hj
  rw [List.length_map] at hj
  obtain ⟨b, off, ha, _⟩ := h4 (j * 12) _ (by rw [show trs R = R.flatMap trcells from rfl, show j * 12 = j * 12 + 0 by omega, rows_at trcells 12 trcells_len R j 0 hj (by decide)]; rfl)
  refine ⟨b, off, ha, ?_⟩
  have hx := xfix_at (w := w) (b := b) (off := off) hj fun i u hu => by
    obtain ⟨b', off', ha', hc⟩ := h4 i u hu
    rw [ha] at ha'
    injection ha' with ha'
    injection ha' with e1 e2
    subst e1 e2
    exact hc
  unfold texts
  rw [List.getElem_map]
  exact ⟨R[j].2.v, ho _ (List.getElem_mem hj), hx⟩
theorem sl_of_xv {w : World} {v : Value} {L : List TX} (h : XV w v L) : ∃ R, texts R = L ∧ SL w 12 v R.length (trs R) ∧ TOs w R := by
  obtain ⟨A, c, hv, h1, h2, h3⟩ := h
  have ex : ∀ j (hj : j < L.length), ∃ s : S3, ∃ b off, A = some ⟨b, off, none⟩ ∧ TOV w s.v L[j].ops ∧ XFix w b (off + j * 12) L[j] s.v := fun j hj => by
    obtain ⟨b, off, ha, v, h0, hx⟩ := h3 j hj
    obtain ⟨Ax, cx, rfl⟩ := tov_form h0
    exact ⟨⟨Ax, L[j].ops.length, cx⟩, b, off, ha, h0, hx⟩
  have ex2 : ∀ j, ∃ s : S3, ∀ (hj : j < L.length), ∃ b off, A = some ⟨b, off, none⟩ ∧ TOV w s.v L[j].ops ∧ XFix w b (off + j * 12) L[j] s.v := fun j => by
    by_cases hj : j < L.length
    · obtain ⟨s, hs⟩ := ex j hj
      exact ⟨s, fun _ => hs⟩
    · exact ⟨⟨none, 0, 0⟩, fun h => absurd h hj⟩
  obtain ⟨f, hf⟩ := Classical.axiomOfChoice ex2
  obtain ⟨R, hR⟩ : ∃ R : List TR, R = List.ofFn (n := L.length) fun i => (L[i.val], f i.val) := ⟨_, rfl⟩
  have hlen : R.length = L.length := by rw [hR, List.length_ofFn]
  have hat : ∀ j (hj : j < L.length), R[j]'(by rw [hlen]; exact hj) = (L[j], f j) := fun j hj => by
    subst hR
    rw [List.getElem_ofFn]
  refine ⟨R, ?_, ⟨A, c, by rw [hlen]; exact hv, by rw [hlen]; exact h1, h2, trs_len R, fun j u hj => ?_⟩, fun r hr => ?_⟩
  · unfold texts
    refine List.ext_getElem (by rw [List.length_map, hlen]) fun j h1 h2 => ?_
    rw [List.getElem_map, hat j h2]
  · obtain ⟨q, r, hq, hr, rfl, hu⟩ := rows_of trcells 12 trcells_len (by decide) R j u hj
    rw [hlen] at hq
    rw [hat q hq] at hu
    obtain ⟨b, off, ha, _, hx⟩ := hf q hq
    refine ⟨b, off, ha, ?_⟩
    rw [← Nat.add_assoc]
    obtain ⟨x0, x1, x2, x3, x4, x5, x6, x7, x8, x9, x10, x11⟩ := hx
    match r, hr with
    | 0, _ => injection hu with hu; rw [← hu]; exact x0
    | 1, _ => injection hu with hu; rw [← hu]; exact x1
    | 2, _ => injection hu with hu; rw [← hu]; exact x2
    | 3, _ => injection hu with hu; rw [← hu]; exact x3
    | 4, _ => injection hu with hu; rw [← hu]; exact x4
    | 5, _ => injection hu with hu; rw [← hu]; exact x5
    | 6, _ => injection hu with hu; rw [← hu]; exact x6
    | 7, _ => injection hu with hu; rw [← hu]; exact x7
    | 8, _ => injection hu with hu; rw [← hu]; exact x8
    | 9, _ => injection hu with hu; rw [← hu]; exact x9
    | 10, _ => injection hu with hu; rw [← hu]; exact x10
    | 11, _ => injection hu with hu; rw [← hu]; exact x11
  · obtain ⟨j, hj, rfl⟩ := List.mem_iff_getElem.1 hr
    rw [hlen] at hj
    rw [hat j hj]
    obtain ⟨b, off, _, h0, _⟩ := hf j hj
    exact h0
/-- The call owns the slice v from block B on: it reads as these transactions. -/
def XO (w : World) (B : Nat) (v : Value) (R : List TR) : Prop := w.ownsRow B 44 12 v R.length (trs R)
theorem XO.gr {w w' : World} {B : Nat} {v : Value} {R : List TR} (h : XO w B v R) (g : Gr w w') : XO w' B v R := own_gr h g
theorem XO.le {w : World} {B B' : Nat} {v : Value} {R : List TR} (h : XO w B v R) (hb : B' ≤ B) : XO w B' v R := own_le h hb
theorem XO.xv {w : World} {B : Nat} {v : Value} {R : List TR} (h : XO w B v R) (ho : TOs w R) : XV w v (texts R) := xv_of_sl (own_sl h) ho
theorem infoTxn : (Try.prog.info? 44).map (fun i => (i.zero, i.size, i.bytes)) = some (some (.agg zeroX), 12, 112) := by kernel_rfl

set_option maxRecDepth 100000 in
theorem oclone_any (v : Value) (L : List TO) (w : World) (hv : TOV w v L) (hlen : L.length * 48 ≤ 140737488355328) :
    Calls Try.prog 70 #[v] w fun e w' => ∃ u, e = .returned u ∧ TOO w' w.heap.size u L ∧ Gr w w' := by
  have HV := Lib.hid hv
  obtain ⟨A, c, rfl, l1, ⟨_, l2⟩, l3⟩ := hv
  cases A with
  | none =>
    have hn0 : L.length = 0 := by
      rcases Nat.eq_zero_or_pos L.length with h | h
      · exact h
      · obtain ⟨b, off, hh, _⟩ := l3 0 h
        cases hh
    have hL : L = [] := List.length_eq_zero_iff.1 hn0
    have hc0 := l2 rfl
    subst hL hc0
    clear l1 l2 l3 hn0
    have he : ∀ w : World, (binOp .eql 42 (.slice none 0 0) (.slice none 0 0)).run Try.prog w = .ok (.bool true) w := fun w => Lib.run_eql_slice_nil w 42 55 none 0 0 0 0 Try.underlying42
    go_enter Try.func70, Try.ntmps70
    go_wp2
    go_ret
    exact ⟨_, rfl, TOO.nil _ _, Gr.refl _⟩
  | some ad =>
    clear l1 l2 l3
    obtain ⟨i0, hi, hz0, hz1, hz2⟩ := info_parts infoTOp
    have HI := Lib.hid (And.intro hi (And.intro hz0 (And.intro hz1 hz2)))
    clear hi hz0 hz1 hz2
    obtain ⟨n, hn⟩ : ∃ n, n = L.length := ⟨_, rfl⟩
    have he : ∀ w : World, (binOp .eql 42 (.slice (some ad) n c) (.slice none 0 0)).run Try.prog w = .ok (.bool false) w := fun w => Lib.run_eql_slice_nil w 42 55 (some ad) n c 0 0 Try.underlying42
    rw [← hn] at hlen HV ⊢
    have HSL := Lib.hid (HV.out.gr (gr_box w (.cells #[] 55))).sl
    rw [← hn] at HSL
    have HN := Lib.hid hn
    clear hn
    go_enter Try.func70, Try.ntmps70
    go_wp2_with (at_builtin; refine wpList_append_sl _ rfl (.tmp 5) (.tmp 6) 42 rfl w.heap.size 55 i0 _ 4 48 Try.underlying42 HI.out.1 HI.out.2.1 HI.out.2.2.1 HI.out.2.2.2 rfl (by decide) _ 0 [] rfl (own_none w _ 4) _ n (tocells L) rfl HSL.out (tocells_one L) (by unfold maxLen; omega) (by omega) (by simp) n (Nat.zero_add n) ?_; intro A5 c5 w5 hown5 hgr5 _)
    have HO : Hid (TOO w5 w.heap.size (.slice A5 n c5) L) := Lib.hid (by rw [List.nil_append] at hown5; unfold TOO; rw [← HN.out]; exact hown5)
    have HG : Hid (Gr w w5) := Lib.hid (gr_of_grown (gr_box w _) (own_none w _ 4) hgr5 (by simp))
    clear hown5 hgr5
    go_wp2
    go_ret
    exact ⟨_, rfl, HO.out, HG.out⟩
set_option maxRecDepth 100000 in
theorem xclone_any (v : Value) (R : List TR) (w : World) (hv : SL w 12 v R.length (trs R)) (hlen : R.length * 112 ≤ 140737488355328) :
    Calls Try.prog 53 #[v] w fun e w' => ∃ u, e = .returned u ∧ XO w' w.heap.size u R ∧ Gr w w' := by
  have HV := Lib.hid hv
  obtain ⟨A, c, rfl, l1, ⟨_, l2⟩, l3, l4⟩ := hv
  cases A with
  | none =>
    have hn0 : R.length = 0 := by
      rcases Nat.eq_zero_or_pos R.length with h | h
      · exact h
      · obtain ⟨b, off, hh, _⟩ := l4 0 ((trs R)[0]'(by rw [l3]; omega)) (List.getElem?_eq_getElem _)
        cases hh
    have hL : R = [] := List.length_eq_zero_iff.1 hn0
    have hc0 := l2 rfl
    subst hL hc0
    clear l1 l2 l3 l4 hn0
    have he : ∀ w : World, (binOp .eql 22 (.slice none 0 0) (.slice none 0 0)).run Try.prog w = .ok (.bool true) w := fun w => Lib.run_eql_slice_nil w 22 44 none 0 0 0 0 Try.underlying22
    go_enter Try.func53, Try.ntmps53
    go_wp2
    go_ret
    exact ⟨_, rfl, World.ownsRow_nil w _ _ _, Gr.refl _⟩
  | some ad =>
    clear l1 l2 l3 l4
    obtain ⟨i0, hi, hz0, hz1, hz2⟩ := info_parts infoTxn
    have HI := Lib.hid (And.intro hi (And.intro hz0 (And.intro hz1 hz2)))
    clear hi hz0 hz1 hz2
    obtain ⟨n, hn⟩ : ∃ n, n = R.length := ⟨_, rfl⟩
    have he : ∀ w : World, (binOp .eql 22 (.slice (some ad) n c) (.slice none 0 0)).run Try.prog w = .ok (.bool false) w := fun w => Lib.run_eql_slice_nil w 22 44 (some ad) n c 0 0 Try.underlying22
    rw [← hn] at hlen HV ⊢
    have HSL := Lib.hid (HV.out.gr (gr_box w (.cells #[] 44)))
    have HN := Lib.hid hn
    clear hn
    go_enter Try.func53, Try.ntmps53
    go_wp2_with (at_builtin; refine wpList_append_sl _ rfl (.tmp 5) (.tmp 6) 22 rfl w.heap.size 44 i0 _ 12 112 Try.underlying22 HI.out.1 HI.out.2.1 HI.out.2.2.1 HI.out.2.2.2 rfl (by decide) _ 0 [] rfl (own_none w _ 12) _ n (trs R) rfl HSL.out (trs_one R) (by unfold maxLen; omega) (by omega) (by simp) n (Nat.zero_add n) ?_; intro A5 c5 w5 hown5 hgr5 _)
    have HO : Hid (XO w5 w.heap.size (.slice A5 n c5) R) := Lib.hid (by rw [List.nil_append] at hown5; unfold XO; rw [← HN.out]; exact hown5)
    have HG : Hid (Gr w w5) := Lib.hid (gr_of_grown (gr_box w _) (own_none w _ 12) hgr5 (by simp))
    clear hown5 hgr5
    go_wp2
    go_ret
    exact ⟨_, rfl, HO.out, HG.out⟩
end Go.Proofs.Ytlgljanofppleaa
