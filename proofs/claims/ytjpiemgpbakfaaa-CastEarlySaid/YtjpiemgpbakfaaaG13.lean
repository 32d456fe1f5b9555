/- Texts CutD, CutE, joined. -/
import Derived.Test.YtjpiemgpbakfaaaG11
import Derived.Test.YtjpiemgpbakfaaaG12
import Derived.Lib.SliceRun
/- Rows of transactions; walks: slices.Clone of operations and of transactions; the program's Copy of a transaction. -/
namespace Go.Proofs.Ytjpiemgpbakfaaa
open Go.RowKit Go.Joins

/-- The list's places from o on hold cs. -/
def setFrom (xs : List Value) : Nat → List Value → List Value
  | _, [] => xs
  | o, u :: r => setFrom (xs.set o u) (o + 1) r
def putCells (w : World) (g : Nat) : Nat → List Value → World
  | _, [] => w
  | o, u :: r => putCells (w.setCell ⟨g, o, none⟩ u) g (o + 1) r
theorem setFrom_at : ∀ (cs : List Value) (xs : List Value) (o j : Nat), o + cs.length ≤ xs.length → (setFrom xs o cs)[j]? = if o ≤ j ∧ j < o + cs.length then cs[j - o]? else xs[j]?
  | [], xs, o, j, _ => by rw [if_neg (by simp only [List.length_nil]; omega)]; rfl
  | u :: r, xs, o, j, h => by
    rw [List.length_cons] at h
    show (setFrom (xs.set o u) (o + 1) r)[j]? = _
    rw [setFrom_at r (xs.set o u) (o + 1) j (by rw [List.length_set]; omega), List.length_cons]
    by_cases e : j = o
    · subst e
      rw [if_neg (by omega), if_pos (by omega), Nat.sub_self, List.getElem?_set_self (by omega)]
      rfl
    · by_cases h2 : o + 1 ≤ j ∧ j < o + 1 + r.length
      · rw [if_pos h2, if_pos (by omega), show j - o = (j - (o + 1)) + 1 by omega]
        rfl
      · rw [if_neg h2, if_neg (by omega), List.getElem?_set_ne (fun q => e q.symm)]
theorem setFrom_rows {α : Type} (f : α → List Value) (k : Nat) (hf : ∀ x, (f x).length = k) (hk : 0 < k) (L : List α) (i : Nat) (hi : i < L.length) (y : α) : setFrom (L.flatMap f) (i * k) (f y) = (L.set i y).flatMap f := by
  have hl := rows_len f k hf L
  have hik : i * k + k ≤ L.length * k := by
    have := Nat.mul_le_mul_right k hi
    rw [Nat.succ_mul] at this
    exact this
  refine List.ext_getElem? fun j => ?_
  rw [setFrom_at (f y) _ _ _ (by rw [hf, hl]; exact hik), hf]
  rcases Nat.lt_or_ge j (L.length * k) with hj | hj
  · have hq : j / k < L.length := by rw [Nat.div_lt_iff_lt_mul hk]; exact hj
    have hr := Nat.mod_lt j hk
    have hd := Nat.div_add_mod j k
    rw [Nat.mul_comm] at hd
    have e1 : ((L.set i y).flatMap f)[j]? = (f ((L.set i y)[j / k]'(by rw [List.length_set]; exact hq)))[j % k]? := by
      rw [← rows_at f k hf (L.set i y) (j / k) (j % k) (by rw [List.length_set]; exact hq) hr, hd]
    have e2 : (L.flatMap f)[j]? = (f L[j / k])[j % k]? := by rw [← rows_at f k hf L (j / k) (j % k) hq hr, hd]
    rw [e1, e2]
    by_cases e : j / k = i
    · have hji : j = i * k + j % k := by rw [← e]; exact hd.symm
      rw [if_pos (by omega)]
      have : (L.set i y)[j / k]'(by rw [List.length_set]; exact hq) = y := by
        subst e
        exact List.getElem_set_self _
      rw [this]
      congr 1
      omega
    · have hne : ¬ (i * k ≤ j ∧ j < i * k + k) := fun h => e (by
        have h1 : j < (i + 1) * k := by rw [Nat.succ_mul]; omega
        have h2 := (Nat.div_lt_iff_lt_mul hk).2 h1
        have h3 := (Nat.le_div_iff_mul_le hk).2 h.1
        omega)
      rw [if_neg hne]
      have : (L.set i y)[j / k]'(by rw [List.length_set]; exact hq) = L[j / k] := List.getElem_set_ne (fun q => e q.symm) _
      rw [this]
  · rw [if_neg (by omega), List.getElem?_eq_none (by rw [hl]; exact hj), List.getElem?_eq_none (by rw [rows_len f k hf, List.length_set]; exact hj)]
theorem own_putCells {B : Nat} {t : TypeId} {size g n c : Nat} : ∀ (cs : List Value) (o : Nat) (w : World) (xs : List Value), w.ownsRow B t size (.slice (some ⟨g, 0, none⟩) n c) n xs →
    (putCells w g o cs).ownsRow B t size (.slice (some ⟨g, 0, none⟩) n c) n (setFrom xs o cs) ∧ Kp (some g) w (putCells w g o cs)
  | [], o, w, xs, h => ⟨h, Kp.refl _ _⟩
  | u :: r, o, w, xs, h => by
    obtain ⟨h1, h2⟩ := h.stored o u
    obtain ⟨h3, h4⟩ := own_putCells r (o + 1) _ _ h1
    exact ⟨h3, Kp.trans h2 h4⟩
/-- A transaction and where its operations lie. -/
abbrev TR := TX × S3
def trcells (r : TR) : List Value := (tcs r.1 r.2.v).toList
theorem trcells_len (r : TR) : (trcells r).length = 12 := rfl
def trs (R : List TR) : List Value := R.flatMap trcells
theorem trs_len (R : List TR) : (trs R).length = R.length * 12 := rows_len trcells 12 trcells_len R
theorem trs_one (R : List TR) : ∀ u ∈ trs R, u.oneCell' = true := by
  intro u hu
  obtain ⟨o, _, hu⟩ := List.mem_flatMap.1 hu
  unfold trcells at hu
  simp only [List.mem_cons, List.not_mem_nil, or_false] at hu
  rcases hu with rfl | rfl | rfl | rfl | rfl | rfl | rfl | rfl | rfl | rfl | rfl | rfl <;> rfl
def texts (R : List TR) : List TX := R.map (·.1)
/-- Each transaction's operations lie where they should. -/
def TOs (w : World) (R : List TR) : Prop := ∀ r ∈ R, TOV w r.2.v r.1.ops
theorem TOs.gr {w w' : World} {R : List TR} (h : TOs w R) (g : Gr w w') : TOs w' R := fun r hr => (h r hr).gr g
theorem xfix_at {w : World} {b off j : Nat} {R : List TR} (hj : j < R.length) (h : ∀ i u, (trs R)[i]? = some u → w.cell? ⟨b, off + i, none⟩ = some u) : XFix w b (off + j * 12) R[j].1 R[j].2.v := by
  have at_ : ∀ r u, r < 12 → (trcells R[j])[r]? = some u → w.cell? ⟨b, off + j * 12 + r, none⟩ = some u := fun r u hr hu => by
    rw [Nat.add_assoc]
    exact h _ u (by rw [show trs R = R.flatMap trcells from rfl, rows_at trcells 12 trcells_len R j r hj hr]; exact hu)
  exact ⟨at_ 0 _ (by decide) rfl, at_ 1 _ (by decide) rfl, at_ 2 _ (by decide) rfl, at_ 3 _ (by decide) rfl, at_ 4 _ (by decide) rfl, at_ 5 _ (by decide) rfl, at_ 6 _ (by decide) rfl, at_ 7 _ (by decide) rfl, at_ 8 _ (by decide) rfl, at_ 9 _ (by decide) rfl, at_ 10 _ (by decide) rfl, at_ 11 _ (by decide) rfl⟩
theorem xv_of_sl {w : World} {v : Value} {R : List TR} (h : SL w 12 v R.length (trs R)) (ho : TOs w R) : XV w v (texts R) := by
  obtain ⟨A, c, hv, h1, h2, h3, h4⟩ := h
  refine ⟨A, c, by unfold texts; rw [List.length_map]; exact hv, by unfold texts; rw [List.length_map]; exact h1, h2, fun j hj => ?_⟩
  unfold texts at hj
  rw [List.length_map] at hj
  obtain ⟨b, off, ha, _⟩ := h4 (j * 12) _ (by rw [show trs R = R.flatMap trcells from rfl, show j * 12 = j * 12 + 0 by omega, rows_at trcells 12 trcells_len R j 0 hj (by decide)]; rfl)
  refine ⟨b, off, ha, ?_⟩
  have hx := xfix_at (w := w) (b := b) (off := off) hj fun i u hu => by
    obtain ⟨b', off', ha', hc⟩ := h4 i u hu
    rw [ha] at ha'
    injection ha' with ha'
    injection ha' with e1 e2
    subst e1 e2
    exact hc
  unfold texts
  rw [List.getElem_map]
  exact ⟨R[j].2.v, ho _ (List.getElem_mem hj), hx⟩
theorem sl_of_xv {w : World} {v : Value} {L : List TX} (h : XV w v L) : ∃ R, texts R = L ∧ SL w 12 v R.length (trs R) ∧ TOs w R := by
  obtain ⟨A, c, hv, h1, h2, h3⟩ := h
  have ex : ∀ j (hj : j < L.length), ∃ s : S3, ∃ b off, A = some ⟨b, off, none⟩ ∧ TOV w s.v L[j].ops ∧ XFix w b (off + j * 12) L[j] s.v := fun j hj => by
    obtain ⟨b, off, ha, v, h0, hx⟩ := h3 j hj
    obtain ⟨Ax, cx, rfl⟩ := tov_form h0
    exact ⟨⟨Ax, L[j].ops.length, cx⟩, b, off, ha, h0, hx⟩
  have ex2 : ∀ j, ∃ s : S3, ∀ (hj : j < L.length), ∃ b off, A = some ⟨b, off, none⟩ ∧ TOV w s.v L[j].ops ∧ XFix w b (off + j * 12) L[j] s.v := fun j => by
    by_cases hj : j < L.length
    · obtain ⟨s, hs⟩ := ex j hj
      exact ⟨s, fun _ => hs⟩
    · exact ⟨⟨none, 0, 0⟩, fun h => absurd h hj⟩
  obtain ⟨f, hf⟩ := Classical.axiomOfChoice ex2
  obtain ⟨R, hR⟩ : ∃ R : List TR, R = List.ofFn (n := L.length) fun i => (L[i.val], f i.val) := ⟨_, rfl⟩
  have hlen : R.length = L.length := by rw [hR, List.length_ofFn]
  have hat : ∀ j (hj : j < L.length), R[j]'(by rw [hlen]; exact hj) = (L[j], f j) := fun j hj => by
    subst hR
    rw [List.getElem_ofFn]
  refine ⟨R, ?_, ⟨A, c, by rw [hlen]; exact hv, by rw [hlen]; exact h1, h2, trs_len R, fun j u hj => ?_⟩, fun r hr => ?_⟩
  · unfold texts
    refine List.ext_getElem (by rw [List.length_map, hlen]) fun j h1 h2 => ?_
    rw [List.getElem_map, hat j h2]
  · obtain ⟨q, r, hq, hr, rfl, hu⟩ := rows_of trcells 12 trcells_len (by decide) R j u hj
    rw [hlen] at hq
    rw [hat q hq] at hu
    obtain ⟨b, off, ha, _, hx⟩ := hf q hq
    refine ⟨b, off, ha, ?_⟩
    rw [← Nat.add_assoc]
    obtain ⟨x0, x1, x2, x3, x4, x5, x6, x7, x8, x9, x10, x11⟩ := hx
    match r, hr with
    | 0, _ => injection hu with hu; rw [← hu]; exact x0
    | 1, _ => injection hu with hu; rw [← hu]; exact x1
    | 2, _ => injection hu with hu; rw [← hu]; exact x2
    | 3, _ => injection hu with hu; rw [← hu]; exact x3
    | 4, _ => injection hu with hu; rw [← hu]; exact x4
    | 5, _ => injection hu with hu; rw [← hu]; exact x5
    | 6, _ => injection hu with hu; rw [← hu]; exact x6
    | 7, _ => injection hu with hu; rw [← hu]; exact x7
    | 8, _ => injection hu with hu; rw [← hu]; exact x8
    | 9, _ => injection hu with hu; rw [← hu]; exact x9
    | 10, _ => injection hu with hu; rw [← hu]; exact x10
    | 11, _ => injection hu with hu; rw [← hu]; exact x11
  · obtain ⟨j, hj, rfl⟩ := List.mem_iff_getElem.1 hr
    rw [hlen] at hj
    rw [hat j hj]
    obtain ⟨b, off, _, h0, _⟩ := hf j hj
    exact h0
/-- The call owns the slice v from block B on: it reads as these transactions. -/
def XO (w : World) (B : Nat) (v : Value) (R : List TR) : Prop := w.ownsRow B 38 12 v R.length (trs R)
theorem XO.gr {w w' : World} {B : Nat} {v : Value} {R : List TR} (h : XO w B v R) (g : Gr w w') : XO w' B v R := own_gr h g
theorem XO.le {w : World} {B B' : Nat} {v : Value} {R : List TR} (h : XO w B v R) (hb : B' ≤ B) : XO w B' v R := own_le h hb
theorem XO.xv {w : World} {B : Nat} {v : Value} {R : List TR} (h : XO w B v R) (ho : TOs w R) : XV w v (texts R) := xv_of_sl (own_sl h) ho
theorem infoTxn : (Try.prog.info? 38).map (fun i => (i.zero, i.size, i.bytes)) = some (some (.agg zeroX), 12, 112) := by kernel_rfl

set_option maxRecDepth 100000 in
theorem oclone_any (v : Value) (L : List TO) (w : World) (hv : TOV w v L) (hlen : L.length * 48 ≤ 140737488355328) :
    Calls Try.prog 54 #[v] w fun e w' => ∃ u, e = .returned u ∧ TOO w' w.heap.size u L ∧ Gr w w' := by
  have HV := Lib.hid hv
  obtain ⟨A, c, rfl, l1, ⟨_, l2⟩, l3⟩ := hv
  cases A with
  | none =>
    have hn0 : L.length = 0 := by
      rcases Nat.eq_zero_or_pos L.length with h | h
      · exact h
      · obtain ⟨b, off, hh, _⟩ := l3 0 h
        cases hh
    have hL : L = [] := List.length_eq_zero_iff.1 hn0
    have hc0 := l2 rfl
    subst hL hc0
    clear l1 l2 l3 hn0
    have he : ∀ w : World, (binOp .eql 36 (.slice none 0 0) (.slice none 0 0)).run Try.prog w = .ok (.bool true) w := fun w => Lib.run_eql_slice_nil w 36 50 none 0 0 0 0 Try.underlying36
    go_enter Try.func54, Try.ntmps54
    go_wp2
    go_ret
    exact ⟨_, rfl, TOO.nil _ _, Gr.refl _⟩
  | some ad =>
    clear l1 l2 l3
    obtain ⟨i0, hi, hz0, hz1, hz2⟩ := info_parts infoTOp
    have HI := Lib.hid (And.intro hi (And.intro hz0 (And.intro hz1 hz2)))
    clear hi hz0 hz1 hz2
    obtain ⟨n, hn⟩ : ∃ n, n = L.length := ⟨_, rfl⟩
    have he : ∀ w : World, (binOp .eql 36 (.slice (some ad) n c) (.slice none 0 0)).run Try.prog w = .ok (.bool false) w := fun w => Lib.run_eql_slice_nil w 36 50 (some ad) n c 0 0 Try.underlying36
    rw [← hn] at hlen HV ⊢
    have HSL := Lib.hid (HV.out.gr (gr_box w (.cells #[] 50))).sl
    rw [← hn] at HSL
    have HN := Lib.hid hn
    clear hn
    go_enter Try.func54, Try.ntmps54
    go_wp2_with (at_builtin; refine wpList_append_sl _ rfl (.tmp 5) (.tmp 6) 36 rfl w.heap.size 50 i0 _ 4 48 Try.underlying36 HI.out.1 HI.out.2.1 HI.out.2.2.1 HI.out.2.2.2 rfl (by decide) _ 0 [] rfl (own_none w _ 4) _ n (tocells L) rfl HSL.out (tocells_one L) (by unfold maxLen; omega) (by omega) (by simp) n (Nat.zero_add n) ?_; intro A5 c5 w5 hown5 hgr5 _)
    have HO : Hid (TOO w5 w.heap.size (.slice A5 n c5) L) := Lib.hid (by rw [List.nil_append] at hown5; unfold TOO; rw [← HN.out]; exact hown5)
    have HG : Hid (Gr w w5) := Lib.hid (gr_of_grown (gr_box w _) (own_none w _ 4) hgr5 (by simp))
    clear hown5 hgr5
    go_wp2
    go_ret
    exact ⟨_, rfl, HO.out, HG.out⟩
set_option maxRecDepth 100000 in
theorem xclone_any (v : Value) (R : List TR) (w : World) (hv : SL w 12 v R.length (trs R)) (hlen : R.length * 112 ≤ 140737488355328) :
    Calls Try.prog 38 #[v] w fun e w' => ∃ u, e = .returned u ∧ XO w' w.heap.size u R ∧ Gr w w' := by
  have HV := Lib.hid hv
  obtain ⟨A, c, rfl, l1, ⟨_, l2⟩, l3, l4⟩ := hv
  cases A with
  | none =>
    have hn0 : R.length = 0 := by
      rcases Nat.eq_zero_or_pos R.length with h | h
      · exact h
      · obtain ⟨b, off, hh, _⟩ := l4 0 ((trs R)[0]'(by rw [l3]; omega)) (List.getElem?_eq_getElem _)
        cases hh
    have hL : R = [] := List.length_eq_zero_iff.1 hn0
    have hc0 := l2 rfl
    subst hL hc0
    clear l1 l2 l3 l4 hn0
    have he : ∀ w : World, (binOp .eql 22 (.slice none 0 0) (.slice none 0 0)).run Try.prog w = .ok (.bool true) w := fun w => Lib.run_eql_slice_nil w 22 38 none 0 0 0 0 Try.underlying22
    go_enter Try.func38, Try.ntmps38
    go_wp2
    go_ret
    exact ⟨_, rfl, World.ownsRow_nil w _ _ _, Gr.refl _⟩
  | some ad =>
    clear l1 l2 l3 l4
    obtain ⟨i0, hi, hz0, hz1, hz2⟩ := info_parts infoTxn
    have HI := Lib.hid (And.intro hi (And.intro hz0 (And.intro hz1 hz2)))
    clear hi hz0 hz1 hz2
    obtain ⟨n, hn⟩ : ∃ n, n = R.length := ⟨_, rfl⟩
    have he : ∀ w : World, (binOp .eql 22 (.slice (some ad) n c) (.slice none 0 0)).run Try.prog w = .ok (.bool false) w := fun w => Lib.run_eql_slice_nil w 22 38 (some ad) n c 0 0 Try.underlying22
    rw [← hn] at hlen HV ⊢
    have HSL := Lib.hid (HV.out.gr (gr_box w (.cells #[] 38)))
    have HN := Lib.hid hn
    clear hn
    go_enter Try.func38, Try.ntmps38
    go_wp2_with (at_builtin; refine wpList_append_sl _ rfl (.tmp 5) (.tmp 6) 22 rfl w.heap.size 38 i0 _ 12 112 Try.underlying22 HI.out.1 HI.out.2.1 HI.out.2.2.1 HI.out.2.2.2 rfl (by decide) _ 0 [] rfl (own_none w _ 12) _ n (trs R) rfl HSL.out (trs_one R) (by unfold maxLen; omega) (by omega) (by simp) n (Nat.zero_add n) ?_; intro A5 c5 w5 hown5 hgr5 _)
    have HO : Hid (XO w5 w.heap.size (.slice A5 n c5) R) := Lib.hid (by rw [List.nil_append] at hown5; unfold XO; rw [← HN.out]; exact hown5)
    have HG : Hid (Gr w w5) := Lib.hid (gr_of_grown (gr_box w _) (own_none w _ 12) hgr5 (by simp))
    clear hown5 hgr5
    go_wp2
    go_ret
    exact ⟨_, rfl, HO.out, HG.out⟩
end Go.Proofs.Ytjpiemgpbakfaaa
/- Walks: the program's Copy of a transaction. -/
namespace Go.Proofs.Ytjpiemgpbakfaaa
open Go.RowKit Go.Joins

theorem own_blk {w : World} {B : Nat} {t : TypeId} {size n c : Nat} {A : Option Addr} {xs : List Value} (h : w.ownsRow B t size (.slice A n c) n xs) (hn : 0 < n) : ∃ g, A = some ⟨g, 0, none⟩ := by
  rcases h.2 with ⟨hh, h2⟩ | ⟨g', cap, cur, hh, hb, hg, hn, hm, hcs, ht⟩
  · injection hh with e1 e2 e3
    omega
  · injection hh with e1 e2 e3
    exact ⟨g', e1⟩
theorem own_free {w : World} {B : Nat} {t : TypeId} {size g n c : Nat} {xs : List Value} (h : w.ownsRow B t size (.slice (some ⟨g, 0, none⟩) n c) n xs) (j : Nat) : w.frozen? ⟨g, j, none⟩ = false := by
  rcases h.2 with ⟨hh, h2⟩ | ⟨g', cap, cur, hh, hb, hg, hn, hm, hcs, ht⟩
  · cases hh
  · injection hh with e1 e2 e3
    injection e1 with e1
    injection e1 with e1
    subst e1
    exact unfrozen_of_block hg j
theorem own_cell {w : World} {B : Nat} {t : TypeId} {size g n c : Nat} {xs : List Value} (h : w.ownsRow B t size (.slice (some ⟨g, 0, none⟩) n c) n xs) {j : Nat} {u : Value} (hj : xs[j]? = some u) : w.cell? ⟨g, j, none⟩ = some u := by
  obtain ⟨A, c', hv, h1, h2, h3, h4⟩ := own_sl h
  injection hv with e1 e2 e3
  obtain ⟨b, off, ha, hc⟩ := h4 j u hj
  rw [← e1] at ha
  injection ha with ha
  injection ha with e4 e5
  subst e4 e5
  rw [Nat.zero_add] at hc
  exact hc
/-- A value that lies there already, stored again. -/
theorem own_again {w : World} {B : Nat} {t : TypeId} {size g n c : Nat} {xs : List Value} (h : w.ownsRow B t size (.slice (some ⟨g, 0, none⟩) n c) n xs) {j : Nat} {u : Value} (hj : xs[j]? = some u) : (w.setCell ⟨g, j, none⟩ u).ownsRow B t size (.slice (some ⟨g, 0, none⟩) n c) n xs ∧ Kp (some g) w (w.setCell ⟨g, j, none⟩ u) := by
  obtain ⟨h1, h2⟩ := h.stored j u
  refine ⟨?_, h2⟩
  have : xs.set j u = xs := by
    refine List.ext_getElem? fun i => ?_
    by_cases e : j = i
    · subst e
      rw [List.getElem?_set_self (List.getElem?_eq_some_iff.1 hj).1, hj]
    · rw [List.getElem?_set_ne e]
  rw [this] at h1
  exact h1
theorem tocells_at {L : List TO} {k : Nat} (hk : k < L.length) : (tocells L)[k * 4]? = some (.int .i64 L[k].kind) ∧ (tocells L)[k * 4 + 1]? = some (.string L[k].key) ∧ (tocells L)[k * 4 + 2]? = some (.string L[k].elem) ∧ (tocells L)[k * 4 + 3]? = some (.int .i64 L[k].n) := by
  have at_ : ∀ r, r < 4 → (tocells L)[k * 4 + r]? = (tocell L[k])[r]? := fun r hr => rows_at tocell 4 tocell_len L k r hk hr
  exact ⟨at_ 0 (by decide), at_ 1 (by decide), at_ 2 (by decide), at_ 3 (by decide)⟩
/-- What Copy has in memory. -/
structure CpS (w : World) (t : TX) (A : Option Addr) (n c : Nat) (wr : World) : Prop where
  b : wr.heap[w.heap.size]? = some (.cells (tcs t (.slice A n c)) 38 (0, 0))
  r : wr.heap[w.heap.size + 1]? = some (.cells zeroX 38 (0, 0))
  row : wr.ownsRow (w.heap.size + 2) 50 4 (.slice A n c) n (tocells t.ops)
  gr : Gr w wr
theorem CpS.next {w : World} {t : TX} {A : Option Addr} {n c : Nat} {a b : World} (h : CpS w t A n c a) (g : Gr a b) : CpS w t A n c b := ⟨gr_obj g h.b, gr_obj g h.r, own_gr h.row g, h.gr.trans g⟩
theorem CpS.again {w : World} {t : TX} {g n c : Nat} {a : World} (h : CpS w t (some ⟨g, 0, none⟩) n c a) {j : Nat} {u : Value} (hj : (tocells t.ops)[j]? = some u) : CpS w t (some ⟨g, 0, none⟩) n c (a.setCell ⟨g, j, none⟩ u) := by
  obtain ⟨h1, h2⟩ := own_again h.row hj
  have hg : w.heap.size + 2 ≤ g := (own_len h.row).2.2.1
  exact ⟨kp_obj h2 h.b (fun e => by injection e with e; omega), kp_obj h2 h.r (fun e => by injection e with e; omega), h1, h.gr.setCell (by show _ ≤ g; omega) _⟩
theorem CpS.slot {w : World} {t : TX} {A : Option Addr} {n c : Nat} {a : World} (h : CpS w t A n c a) : a.cell? ⟨w.heap.size, 11, none⟩ = some (.slice A n c) := by rw [cell_of_block h.b]; rfl

set_option maxRecDepth 100000 in
set_option maxHeartbeats 4000000 in
theorem copy8_any (t : TX) (v : Value) (w : World) (hv : TOV w v t.ops) (hlen : t.ops.length * 48 ≤ 140737488355328) (hsz : ∀ o ∈ t.ops, o.key.size ≤ 281474976710656 ∧ o.elem.size ≤ 281474976710656) :
    Calls Try.prog 44 #[.agg (tcs t v)] w fun e w' => ∃ u, e = .returned (.agg (tcs t u)) ∧ TOO w' w.heap.size u t.ops ∧ Gr w w' := by
  obtain ⟨A0, c0, rfl⟩ := tov_form hv
  obtain ⟨W, hW, hg, h1, h2⟩ : ∃ W, W = (w.alloc (.cells (tcs t (.slice A0 t.ops.length c0)) 38)).alloc (.cells zeroX 38) ∧ Gr w W ∧ W.heap[w.heap.size]? = some (.cells (tcs t (.slice A0 t.ops.length c0)) 38 (0, 0)) ∧ W.heap[w.heap.size + 1]? = some (.cells zeroX 38 (0, 0)) := by
    refine ⟨_, rfl, ((Gr.refl w).alloc _).alloc _, ?_, ?_⟩ <;> (simp only [World.alloc, Array.getElem?_push, Array.size_push]; simp)
  have hs2 : W.heap.size = w.heap.size + 2 := by rw [hW]; simp
  have HG := Lib.hid hg
  have HC := Lib.hid (oclone_any (.slice A0 t.ops.length c0) t.ops W (hv.gr hg) hlen)
  have HS := Lib.hid hs2
  have HSZ := Lib.hid hsz
  have H1 := Lib.hid h1
  have H2 := Lib.hid h2
  have q11 : W.cell? ⟨w.heap.size, 11, none⟩ = some (.slice A0 t.ops.length c0) := by rw [cell_of_block h1]; rfl
  obtain ⟨n, hn⟩ : ∃ n, n = t.ops.length := ⟨_, rfl⟩
  rw [← hn] at q11 HC hW H1 ⊢
  have HN := Lib.hid hn
  clear hg hv h1 h2 hn hs2 hsz
  go_enter Try.func44, Try.ntmps44
  go_upto_region 1 with (fail)
  rw [← hW]
  clear hW
  go_wp2_with fail
  refine HC.out.mono ?_
  rintro e w1 ⟨u1, rfl, ho1, g1⟩
  obtain ⟨A, c, rfl, -, -⟩ := ho1.form
  rw [← HN.out] at ho1 ⊢
  have p11 : w1.cell? ⟨w.heap.size, 11, none⟩ = some (.slice A0 n c0) := by rw [cell_of_block (gr_obj g1 H1.out)]; rfl
  have f11 : w1.frozen? ⟨w.heap.size, 11, none⟩ = false := unfrozen_of_block (gr_obj g1 H1.out) 11
  have HO1 := Lib.hid ho1
  have HG1 := Lib.hid g1
  clear ho1 g1 q11
  go_upto_region 2 with (fail)
  have hcp : CpS w t A n c (w1.setCell ⟨w.heap.size, 11, none⟩ (.slice A n c)) := by
    refine ⟨set_obj (gr_obj HG1.out H1.out) _, set_obj_other (gr_obj HG1.out H2.out) (by omega) _, ?_, (HG.out.trans HG1.out).setCell (Nat.le_refl _) _⟩
    have h := own_set_obj HO1.out (gr_obj HG1.out H1.out) (by decide) (i := 11) (.slice A n c)
    rw [HS.out, ← HN.out] at h
    exact h
  obtain ⟨w2, hw2⟩ : ∃ x, x = w1.setCell ⟨w.heap.size, 11, none⟩ (.slice A n c) := ⟨_, rfl⟩
  rw [← hw2] at hcp ⊢
  have HCP := Lib.hid hcp
  have r11 := hcp.slot
  clear hw2 hcp p11 f11
  go_wp2_with fail
  clear r11
  go_loopw [12] (fun i wr => ∃ k : Nat, k ≤ n ∧ i = .int .i64 k ∧ CpS w t A n c wr) (fun i _ => n - (intOf i).toNat)
  case atStart => exact ⟨0, Nat.zero_le _, rfl, HCP.out⟩
  case round =>
    obtain ⟨k, hk, rfl, hcp⟩ := hrel
    rename World => wr
    by_cases hlt : k < n
    · obtain ⟨g, rfl⟩ := own_blk hcp.row (by omega)
      have hkL : k < t.ops.length := by rw [← HN.out]; exact hlt
      obtain ⟨t0, t1, t2, t3⟩ := tocells_at hkL
      obtain ⟨o, ho⟩ : ∃ o, o = t.ops[k] := ⟨_, rfl⟩
      rw [← ho] at t0 t1 t2 t3
      have c0 := own_cell hcp.row t0
      have c1 := own_cell hcp.row t1
      have c2 := own_cell hcp.row t2
      have c3 := own_cell hcp.row t3
      have HT1 := Lib.hid t1
      have HT2 := Lib.hid t2
      have HCP := Lib.hid hcp
      clear hcp t0 t1 t2 t3
      obtain ⟨W3, hW3, hg3, ht3⟩ : ∃ W3, W3 = wr.alloc (.cells #[.int .i64 o.kind, .string o.key, .string o.elem, .int .i64 o.n] 50) ∧ Gr wr W3 ∧ TCell W3 wr.heap.size 0 o := by
        refine ⟨_, rfl, (Gr.refl wr).alloc _, ?_, ?_, ?_, ?_⟩ <;> (rw [World.cell?_alloc_at _ _ _ _ rfl]; rfl)
      have HC3 := Lib.hid (HCP.out.next hg3)
      have HG3 := Lib.hid hg3
      have HSK := Lib.hid (HSZ.out o (by rw [ho]; exact List.getElem_mem hkL))
      have HT3 := Lib.hid ht3
      have HB3 : Hid (g < wr.heap.size) := Lib.hid (own_len HCP.out.row).2.2.2
      clear hg3 ht3 ho
      go_upto_region 5 with (fail)
      rw [← hW3]
      clear hW3 c0 c1 c2 c3
      refine qTail 8 (fun w' => w'.cell? ⟨w.heap.size, 11, none⟩ = some (.slice (some ⟨g, 0, none⟩) n c) ∧ TCell w' wr.heap.size 0 o ∧ CpS w t (some ⟨g, 0, none⟩) n c w' ∧ Gr wr w') (by kernel_rfl) (by kernel_rfl) ⟨(HC3.out.next (Gr.refl _).drew).slot, HT3.out.gr (Gr.refl _).drew, HC3.out.next (Gr.refl _).drew, HG3.out.drew⟩ ?_
      simp only [List.take_succ_cons, List.take_zero, List.drop_succ_cons, List.drop_zero]
      iterate 5
        refine qTake (by kernel_rfl) ?_
        apply Exists.intro
        refine ⟨fun wq hq => ?_, ?_⟩
        · go_light
          obtain ⟨e11, ⟨e0, e1, e2, e3⟩, -, -⟩ := hq
          go_simp
          try with_reducible rfl
          done
        try simp only [Act.put, List.setIfInBounds_toArray, List.set_cons_zero, List.set_cons_succ]
      refine qCall (by kernel_rfl) ?_
      apply Exists.intro
      refine ⟨?_, ?_⟩
      · apply Exists.intro
        apply Exists.intro
        refine ⟨fun wq => ?_, fun wq hq => ?_⟩
        · go_light
          go_simp
          exact ⟨rfl, rfl⟩
        · exact (clone_any o.key (HSK.out.1) wq).mono fun e w'' ⟨he, hg⟩ => ⟨he, hg.cell hq.1, hq.2.1.gr hg, hq.2.2.1.next hg, hq.2.2.2.trans hg⟩
      try simp only [Act.put, List.setIfInBounds_toArray, List.set_cons_zero, List.set_cons_succ]
      iterate 2
        refine qTake (by kernel_rfl) ?_
        apply Exists.intro
        refine ⟨fun wq hq => ?_, ?_⟩
        · go_light
          obtain ⟨e11, ⟨e0, e1, e2, e3⟩, -, -⟩ := hq
          go_simp
          try with_reducible rfl
          done
        try simp only [Act.put, List.setIfInBounds_toArray, List.set_cons_zero, List.set_cons_succ]
      refine qNil ?_
      intro w4 hC
      have s1 : w4.cell? ⟨g, k * 4 + 1, none⟩ = some (.string o.key) := own_cell hC.2.2.1.row HT1.out
      have f1 : w4.frozen? ⟨g, k * 4 + 1, none⟩ = false := own_free hC.2.2.1.row _
      have hcp5 := hC.2.2.1.again HT1.out
      have hkp5 : Kp (some g) wr (w4.setCell ⟨g, k * 4 + 1, none⟩ (.string o.key)) := (Kp.of_gr hC.2.2.2).set (.inr rfl) _ _
      have ht5 : TCell (w4.setCell ⟨g, k * 4 + 1, none⟩ (.string o.key)) wr.heap.size 0 o := by
        obtain ⟨a0, a1, a2, a3⟩ := hC.2.1
        have := HB3.out
        exact ⟨setCell_there a0 (by omega), setCell_there a1 (by omega), setCell_there a2 (by omega), setCell_there a3 (by omega)⟩
      obtain ⟨w5, hw5⟩ : ∃ x, x = w4.setCell ⟨g, k * 4 + 1, none⟩ (.string o.key) := ⟨_, rfl⟩
      rw [← hw5] at hcp5 hkp5 ht5
      have HC5 := Lib.hid hcp5
      have HT5 := Lib.hid ht5
      clear hC hcp5 ht5 hkp5
      go_upto_region 6 with (fail)
      rw [← hw5]
      clear hw5 s1 f1
      refine qTail 8 (fun w' => w'.cell? ⟨w.heap.size, 11, none⟩ = some (.slice (some ⟨g, 0, none⟩) n c) ∧ TCell w' wr.heap.size 0 o ∧ CpS w t (some ⟨g, 0, none⟩) n c w') (by kernel_rfl) (by kernel_rfl) ⟨(HC5.out.next (Gr.refl _).drew).slot, HT5.out.gr (Gr.refl _).drew, HC5.out.next (Gr.refl _).drew⟩ ?_
      simp only [List.take_succ_cons, List.take_zero, List.drop_succ_cons, List.drop_zero]
      iterate 5
        refine qTake (by kernel_rfl) ?_
        apply Exists.intro
        refine ⟨fun wq hq => ?_, ?_⟩
        · go_light
          obtain ⟨e11, ⟨e0, e1, e2, e3⟩, -⟩ := hq
          go_simp
          try with_reducible rfl
          done
        try simp only [Act.put, List.setIfInBounds_toArray, List.set_cons_zero, List.set_cons_succ]
      refine qCall (by kernel_rfl) ?_
      apply Exists.intro
      refine ⟨?_, ?_⟩
      · apply Exists.intro
        apply Exists.intro
        refine ⟨fun wq => ?_, fun wq hq => ?_⟩
        · go_light
          go_simp
          exact ⟨rfl, rfl⟩
        · exact (clone_any o.elem (HSK.out.2) wq).mono fun e w'' ⟨he, hg⟩ => ⟨he, hg.cell hq.1, hq.2.1.gr hg, hq.2.2.next hg⟩
      try simp only [Act.put, List.setIfInBounds_toArray, List.set_cons_zero, List.set_cons_succ]
      iterate 2
        refine qTake (by kernel_rfl) ?_
        apply Exists.intro
        refine ⟨fun wq hq => ?_, ?_⟩
        · go_light
          obtain ⟨e11, ⟨e0, e1, e2, e3⟩, -⟩ := hq
          go_simp
          try with_reducible rfl
          done
        try simp only [Act.put, List.setIfInBounds_toArray, List.set_cons_zero, List.set_cons_succ]
      refine qNil ?_
      intro w6 hC
      have s2 : w6.cell? ⟨g, k * 4 + 2, none⟩ = some (.string o.elem) := own_cell hC.2.2.row HT2.out
      have f2 : w6.frozen? ⟨g, k * 4 + 2, none⟩ = false := own_free hC.2.2.row _
      have HC7 := Lib.hid (hC.2.2.again HT2.out)
      clear hC
      go_wp2_with fail
      go_roundw
      case measure => simp [intOf]; omega
      case rel => exact ⟨k + 1, by omega, by go_num, HC7.out⟩
    · have h1 := hcp.b
      have h2 := hcp.r
      have hg5 := hcp.gr
      have ho5 := hcp.row
      have p0 : wr.cell? ⟨w.heap.size, 0, none⟩ = some (.int .i64 t.origin) := by rw [cell_of_block h1]; rfl
      have p1 : wr.cell? ⟨w.heap.size, 1, none⟩ = some (.int .u64 (t.seq : Int)) := by rw [cell_of_block h1]; rfl
      have p2 : wr.cell? ⟨w.heap.size, 2, none⟩ = some (.int .u64 (t.stamp : Int)) := by rw [cell_of_block h1]; rfl
      have p3 : wr.cell? ⟨w.heap.size, 3, none⟩ = some (.int .u64 (t.deps 0 : Int)) := by rw [cell_of_block h1]; rfl
      have p4 : wr.cell? ⟨w.heap.size, 4, none⟩ = some (.int .u64 (t.deps 1 : Int)) := by rw [cell_of_block h1]; rfl
      have p5 : wr.cell? ⟨w.heap.size, 5, none⟩ = some (.int .u64 (t.deps 2 : Int)) := by rw [cell_of_block h1]; rfl
      have p6 : wr.cell? ⟨w.heap.size, 6, none⟩ = some (.int .u64 (t.deps 3 : Int)) := by rw [cell_of_block h1]; rfl
      have p7 : wr.cell? ⟨w.heap.size, 7, none⟩ = some (.int .u64 (t.deps 4 : Int)) := by rw [cell_of_block h1]; rfl
      have p8 : wr.cell? ⟨w.heap.size, 8, none⟩ = some (.int .u64 (t.deps 5 : Int)) := by rw [cell_of_block h1]; rfl
      have p9 : wr.cell? ⟨w.heap.size, 9, none⟩ = some (.int .u64 (t.deps 6 : Int)) := by rw [cell_of_block h1]; rfl
      have p10 : wr.cell? ⟨w.heap.size, 10, none⟩ = some (.int .u64 (t.deps 7 : Int)) := by rw [cell_of_block h1]; rfl
      have p11 : wr.cell? ⟨w.heap.size, 11, none⟩ = some (.slice A n c) := by rw [cell_of_block h1]; rfl
      have z0 : wr.cell? ⟨w.heap.size + 1, 0, none⟩ = some (.int .i64 0) := by rw [cell_of_block h2]; rfl
      have z1 : wr.cell? ⟨w.heap.size + 1, 1, none⟩ = some (.int .u64 0) := by rw [cell_of_block h2]; rfl
      have z2 : wr.cell? ⟨w.heap.size + 1, 2, none⟩ = some (.int .u64 0) := by rw [cell_of_block h2]; rfl
      have z3 : wr.cell? ⟨w.heap.size + 1, 3, none⟩ = some (.int .u64 0) := by rw [cell_of_block h2]; rfl
      have z4 : wr.cell? ⟨w.heap.size + 1, 4, none⟩ = some (.int .u64 0) := by rw [cell_of_block h2]; rfl
      have z5 : wr.cell? ⟨w.heap.size + 1, 5, none⟩ = some (.int .u64 0) := by rw [cell_of_block h2]; rfl
      have z6 : wr.cell? ⟨w.heap.size + 1, 6, none⟩ = some (.int .u64 0) := by rw [cell_of_block h2]; rfl
      have z7 : wr.cell? ⟨w.heap.size + 1, 7, none⟩ = some (.int .u64 0) := by rw [cell_of_block h2]; rfl
      have z8 : wr.cell? ⟨w.heap.size + 1, 8, none⟩ = some (.int .u64 0) := by rw [cell_of_block h2]; rfl
      have z9 : wr.cell? ⟨w.heap.size + 1, 9, none⟩ = some (.int .u64 0) := by rw [cell_of_block h2]; rfl
      have z10 : wr.cell? ⟨w.heap.size + 1, 10, none⟩ = some (.int .u64 0) := by rw [cell_of_block h2]; rfl
      have z11 : wr.cell? ⟨w.heap.size + 1, 11, none⟩ = some (.slice none 0 0) := by rw [cell_of_block h2]; rfl
      have k0 := unfrozen_of_block h2 0
      have k1 := unfrozen_of_block h2 1
      have k2 := unfrozen_of_block h2 2
      have k3 := unfrozen_of_block h2 3
      have k4 := unfrozen_of_block h2 4
      have k5 := unfrozen_of_block h2 5
      have k6 := unfrozen_of_block h2 6
      have k7 := unfrozen_of_block h2 7
      have k8 := unfrozen_of_block h2 8
      have k9 := unfrozen_of_block h2 9
      have k10 := unfrozen_of_block h2 10
      have k11 := unfrozen_of_block h2 11
      have HB2 := Lib.hid h2
      have HG5 := Lib.hid hg5
      have HO5 := Lib.hid ho5
      clear h1 h2 hg5 ho5 hcp
      go_wp2_with fail
      obtain ⟨e2, howns, hgrs⟩ := stored12_facts (.int .i64 t.origin) (.int .u64 (t.seq : Int)) (.int .u64 (t.stamp : Int)) (.int .u64 (t.deps 0 : Int)) (.int .u64 (t.deps 1 : Int)) (.int .u64 (t.deps 2 : Int)) (.int .u64 (t.deps 3 : Int)) (.int .u64 (t.deps 4 : Int)) (.int .u64 (t.deps 5 : Int)) (.int .u64 (t.deps 6 : Int)) (.int .u64 (t.deps 7 : Int)) (.slice A n c) HB2.out
      have hown5 := howns HO5.out (by decide)
      have hgr5 := hgrs HG5.out (Nat.le_succ _)
      clear howns hgrs p0 p1 p2 p3 p4 p5 p6 p7 p8 p9 p10 p11 z0 z1 z2 z3 z4 z5 z6 z7 z8 z9 z10 z11 k0 k1 k2 k3 k4 k5 k6 k7 k8 k9 k10 k11
      obtain ⟨WF, hWF⟩ : ∃ x, x = stored12 wr (w.heap.size + 1) (.int .i64 t.origin) (.int .u64 (t.seq : Int)) (.int .u64 (t.stamp : Int)) (.int .u64 (t.deps 0 : Int)) (.int .u64 (t.deps 1 : Int)) (.int .u64 (t.deps 2 : Int)) (.int .u64 (t.deps 3 : Int)) (.int .u64 (t.deps 4 : Int)) (.int .u64 (t.deps 5 : Int)) (.int .u64 (t.deps 6 : Int)) (.int .u64 (t.deps 7 : Int)) (.slice A n c) := ⟨_, rfl⟩
      rw [← hWF] at e2 hown5 hgr5
      unfold stored12 at hWF
      rw [← hWF]
      have z0 : WF.cell? ⟨w.heap.size + 1, 0, none⟩ = some (.int .i64 t.origin) := by rw [cell_of_block e2]; rfl
      have z1 : WF.cell? ⟨w.heap.size + 1, 1, none⟩ = some (.int .u64 (t.seq : Int)) := by rw [cell_of_block e2]; rfl
      have z2 : WF.cell? ⟨w.heap.size + 1, 2, none⟩ = some (.int .u64 (t.stamp : Int)) := by rw [cell_of_block e2]; rfl
      have z3 : WF.cell? ⟨w.heap.size + 1, 3, none⟩ = some (.int .u64 (t.deps 0 : Int)) := by rw [cell_of_block e2]; rfl
      have z4 : WF.cell? ⟨w.heap.size + 1, 4, none⟩ = some (.int .u64 (t.deps 1 : Int)) := by rw [cell_of_block e2]; rfl
      have z5 : WF.cell? ⟨w.heap.size + 1, 5, none⟩ = some (.int .u64 (t.deps 2 : Int)) := by rw [cell_of_block e2]; rfl
      have z6 : WF.cell? ⟨w.heap.size + 1, 6, none⟩ = some (.int .u64 (t.deps 3 : Int)) := by rw [cell_of_block e2]; rfl
      have z7 : WF.cell? ⟨w.heap.size + 1, 7, none⟩ = some (.int .u64 (t.deps 4 : Int)) := by rw [cell_of_block e2]; rfl
      have z8 : WF.cell? ⟨w.heap.size + 1, 8, none⟩ = some (.int .u64 (t.deps 5 : Int)) := by rw [cell_of_block e2]; rfl
      have z9 : WF.cell? ⟨w.heap.size + 1, 9, none⟩ = some (.int .u64 (t.deps 6 : Int)) := by rw [cell_of_block e2]; rfl
      have z10 : WF.cell? ⟨w.heap.size + 1, 10, none⟩ = some (.int .u64 (t.deps 7 : Int)) := by rw [cell_of_block e2]; rfl
      have z11 : WF.cell? ⟨w.heap.size + 1, 11, none⟩ = some (.slice A n c) := by rw [cell_of_block e2]; rfl
      clear e2 hWF
      refine bodyPost_ret (v := .agg (tcs t (.slice A n c))) (by simp [results, Try.results44, go_sem, *]) rfl ?_
      refine ⟨_, rfl, ?_, hgr5⟩
      unfold TOO
      rw [← HN.out]
      exact own_le hown5 (by omega)
end Go.Proofs.Ytjpiemgpbakfaaa
