/- Texts CaI, joined. -/
import Derived.Test.YtjpiemgpbakfaaaG25
import Derived.Lib.Overlaps
import Derived.Lib.AppendZerosOnto
import Derived.Lib.JoinLaws
/- Walk: slices.Insert of one transaction. Written by wip/tools/gencai.py. -/
namespace Go.Proofs.Ytjpiemgpbakfaaa
open Go.RowKit Go.Joins
set_option linter.unusedSimpArgs false
set_option linter.unusedVariables false

theorem XO.row {w : World} {B : Nat} {v : Value} {L : List TR} (h : XO w B v L) : w.ownsRow B 38 12 v L.length (trs L) := h
theorem XO.addr {w : World} {B : Nat} {L : List TR} {v : Value} (h : XO w B v L) {i : Nat} (hi : i < L.length) : ∃ g c, v = .slice (some ⟨g, 0, none⟩) L.length c := by
  obtain ⟨A, c, rfl, -, -⟩ := own_form h
  obtain ⟨g, rfl⟩ := own_blk h (by omega)
  exact ⟨g, c, rfl⟩
theorem trcell_one (t : TR) : ∀ u ∈ trcells t, u.oneCell' = true := fun u hu => trs_one [t] u (by unfold trs; simpa using hu)
theorem dsliceX_from (n c k : Nat) (hk : k ≤ n) (A : Option Addr) : ∀ W : World, (Instr.slice 22 (.slice A n c) (some (.int .i64 (k : Int))) none none).run Try.prog W = .ok (sliced A k n c 12) W := sliceX_from n c k hk A
theorem dsliceX_to (n c k : Nat) (hk : k ≤ c) (A : Option Addr) : ∀ W : World, (Instr.slice 22 (.slice A n c) none (some (.int .i64 (k : Int))) none).run Try.prog W = .ok (.slice A k c) W := fun W => slice_to_g 22 12 Try.underlying22 (fun W => by show _ = _; kernel_rfl) n c k hk A W
theorem sizeTxI : ∀ W : World, (sizeOf 38).run Try.prog W = .ok 12 W := fun W => by kernel_rfl

/-- These cells written overX xs from o on. -/
def overX (xs : List Value) (o : Nat) (cs : List Value) : List Value := xs.take o ++ cs ++ xs.drop (o + cs.length)
set_option maxRecDepth 100000 in
theorem over_consX (xs : List Value) (o : Nat) (u : Value) (r : List Value) (h : o < xs.length) : overX (xs.set o u) (o + 1) r = overX xs o (u :: r) := by
  unfold overX
  rw [List.set_eq_take_append_cons_drop, if_pos h]
  have ht : (xs.take o).length = o := by rw [List.length_take]; omega
  have e1 : (List.take o xs ++ u :: List.drop (o + 1) xs).take (o + 1) = List.take o xs ++ [u] := by
    rw [List.take_append, ht, List.take_of_length_le (by omega), show o + 1 - o = 1 by omega]
    rfl
  have e2 : (List.take o xs ++ u :: List.drop (o + 1) xs).drop (o + 1 + r.length) = xs.drop (o + (r.length + 1)) := by
    rw [List.drop_append, ht, List.drop_of_length_le (by omega), show o + 1 + r.length - o = r.length + 1 by omega, List.drop_succ_cons, List.drop_drop, List.nil_append]
    congr 1
    omega
  rw [e1, e2, List.length_cons]
  simp
set_option maxRecDepth 100000 in
theorem own_setCellsX {B : Nat} {t : TypeId} {size g n c : Nat} : ∀ (cs : List Value) (o : Nat) (w : World) (xs : List Value), w.ownsRow B t size (.slice (some ⟨g, 0, none⟩) n c) n xs → o + cs.length ≤ xs.length →
    (w.setCells g o cs).ownsRow B t size (.slice (some ⟨g, 0, none⟩) n c) n (overX xs o cs) ∧ Kp (some g) w (w.setCells g o cs)
  | [], o, w, xs, h, _ => by
    refine ⟨?_, Kp.refl _ _⟩
    unfold overX
    rw [List.length_nil, Nat.add_zero, List.append_nil, List.take_append_drop]
    exact h
  | u :: r, o, w, xs, h, hl => by
    rw [List.length_cons] at hl
    obtain ⟨h1, h2⟩ := h.stored o u
    obtain ⟨h3, h4⟩ := own_setCellsX r (o + 1) _ _ h1 (by rw [List.length_set]; omega)
    rw [over_consX xs o u r (by omega)] at h3
    exact ⟨h3, Kp.trans h2 h4⟩
set_option maxRecDepth 100000 in
/-- Room for one element more: it is there already. -/
theorem own_moreX {w : World} {B : Nat} {t : TypeId} {size g n c : Nat} {xs : List Value} (h : w.ownsRow B t size (.slice (some ⟨g, 0, none⟩) n c) n xs) (hc : n + 1 ≤ c) : ∃ ys, ys.length = size ∧ w.ownsRow B t size (.slice (some ⟨g, 0, none⟩) (n + 1) c) (n + 1) (xs ++ ys) := by
  have hl := h.1
  rcases h.2 with ⟨hh, _⟩ | ⟨g', cap, cur, hh, hb, hg, hn, hm, hcs, ht⟩
  · cases hh
  · injection hh with e1 e2 e3
    injection e1 with e1
    injection e1 with e1
    subst e1 e3
    have hmul : (n + 1) * size ≤ c * size := Nat.mul_le_mul_right _ hc
    rw [Nat.add_mul, Nat.one_mul] at hmul
    have hs : cur.toList.length = c * size := by rw [Array.length_toList]; exact hcs
    refine ⟨(cur.toList.drop (n * size)).take size, by rw [List.length_take, List.length_drop, hs]; omega, ?_, .inr ⟨g, c, cur, rfl, hb, hg, hc, hm, hcs, ?_⟩⟩
    · rw [List.length_append, hl, List.length_take, List.length_drop, hs, Nat.add_mul, Nat.one_mul]; omega
    · rw [Nat.add_mul, Nat.one_mul, List.take_add, ht]
set_option maxRecDepth 100000 in
theorem run_copy_draftX (w : World) (ty : TypeId) (b o dLen dCap : Nat) (a : Addr) (sLen sCap : Nat) (cs : List Value) (hn : cs.length = Nat.min sLen dLen * 12)
    (hsrc : ∀ j v, cs[j]? = some v → w.cell? (a.add j) = some v) (hc : ∀ j, j < cs.length → (w.cell? ⟨b, o + j, none⟩).isSome = true) (hf : ∀ j, j < cs.length → w.frozen? ⟨b, o + j, none⟩ = false) (h1 : ∀ v ∈ cs, v.oneCell' = true) :
    ∃ u, (Builtin.copy_ #[22, 22] ty #[.slice (some ⟨b, o, none⟩) dLen dCap, .slice (some a) sLen sCap]).run Try.prog w = .ok u (w.setCells b o cs) := by
  obtain ⟨i0, hi, hz0, hz1, hz2⟩ := info_parts infoTxn
  have hl := run_loadCells_list (P := Try.prog) w a cs hsrc
  have hst := run_storeCells_cells (P := Try.prog) b o cs 0 w (by simpa using hc) (by simpa using hf) h1
  refine ⟨goInt (Nat.min sLen dLen), ?_⟩
  simp [Builtin.copy_, run_underlying Try.underlying22, Builtin.lenOf, Builtin.firstCells, sizeOf, typeInfo, hi, hz1, ← hn, hl, hst]
set_option maxRecDepth 100000 in
theorem trs_insertX (M : List TR) (i : Nat) (p : TR) (h : i ≤ M.length) : trs (M.insertIdx i p) = (trs M).take (i * 12) ++ (trcells p ++ (trs M).drop (i * 12)) := by
  have e : M.insertIdx i p = M.take i ++ (p :: M.drop i) := by
    induction M generalizing i with
    | nil => obtain rfl : i = 0 := by simpa using h
             rfl
    | cons a M ih =>
      cases i with
      | zero => rfl
      | succ i => rw [List.insertIdx_succ_cons, ih i (by simpa using h)]; rfl
  rw [e]
  unfold trs
  rw [rows_take trcells 12 trcells_len, rows_drop trcells 12 trcells_len, List.flatMap_append, List.flatMap_cons]
set_option maxRecDepth 100000 in
theorem own_shapeX {w : World} {B : Nat} {t : TypeId} {size g n c : Nat} {xs : List Value} (h : w.ownsRow B t size (.slice (some ⟨g, 0, none⟩) n c) n xs) : w.shape? g = some (t, c * size) := by
  rcases h.2 with ⟨hh, _⟩ | ⟨g', cap, cur, hh, hb, hg, hn, hm, hcs, ht⟩
  · cases hh
  · injection hh with e1 e2 e3
    injection e1 with e1
    injection e1 with e1
    subst e1 e3
    unfold World.shape?
    rw [hg, ← hcs]
/-- A call's answer: one draft more. -/
def RetInsX (M : List TR) (B i : Nat) (x : TR) (v : Value) (w : World) (e : Ending) (w' : World) : Prop :=
  ∃ v', e = .returned v' ∧ XO w' B v' (M.insertIdx i x) ∧ (v'.ownBlock = v.ownBlock ∨ ∃ g, v'.ownBlock = some g ∧ w.heap.size ≤ g) ∧ Kp v.ownBlock w w'

set_option maxRecDepth 100000 in
set_option maxHeartbeats 4000000 in
theorem insert_endX (v : Value) (M : List TR) (B vb Bv : Nat) (x : TR) (w : World) (hv : XO w B v M) (hB : B ≤ w.heap.size) (hlen : (M.length + 1) * 112 ≤ 140737488355328)
    (hx : w.ownsRow Bv 38 12 (.slice (some ⟨vb, 0, none⟩) 1 1) 1 (trcells x)) :
    Calls Try.prog 37 #[v, .int .i64 (M.length : Int), .slice (some ⟨vb, 0, none⟩) 1 1] w fun e w' => RetInsX M B M.length x v w e w' := by
  obtain ⟨i0, hi, hz0, hz1, hz2⟩ := info_parts infoTxn
  have HR : Hid (w.ownsRow B 38 12 v M.length (trs M)) := Lib.hid (XO.row hv)
  obtain ⟨A, c, rfl, hnc, hc63⟩ := own_form (XO.row hv)
  have HX := Lib.hid (own_sl hx)
  clear hv hx
  have hN : trs M ++ trcells x = trs (M.insertIdx M.length x) := by
    rw [trs_insertX M M.length _ (Nat.le_refl _), List.take_of_length_le (by rw [trs_len]; exact Nat.le_refl _), List.drop_of_length_le (by rw [trs_len]; exact Nat.le_refl _), List.append_nil]
  have HN := Lib.hid hN
  have HL : Hid ((M.insertIdx M.length x).length = M.length + 1) := Lib.hid (by rw [List.length_insertIdx, if_pos (Nat.le_refl _)])
  clear hN
  obtain ⟨n, hn⟩ : ∃ n, n = M.length := ⟨_, rfl⟩
  rw [← hn] at HR HN HL hlen hnc ⊢
  clear hn
  have hsf : ∃ u, ∀ W, (Instr.slice 22 (.slice A n c) (some (.int .i64 (n : Int))) none none).run Try.prog W = .ok u W := ⟨_, dsliceX_from n c n (Nat.le_refl _) A⟩
  obtain ⟨u1, hsf⟩ := hsf
  have h63 : n + 1 ≤ maxLen := by unfold maxLen; omega
  go_enter Try.func37, Try.ntmps37
  go_wp2_with (at_builtin; refine wpList_append_sl _ rfl _ _ 22 rfl B 38 i0 _ 12 112 Try.underlying22 hi hz0 hz1 hz2 rfl (by decide) (.slice A n c) n _ rfl HR.out (.slice (some ⟨vb, 0, none⟩) 1 1) 1 _ rfl HX.out (trcell_one x) h63 hlen hB (n + 1) rfl ?_; intro A' c' w' hown' hgr hat)
  go_ret
  refine ⟨_, rfl, ?_, ?_, hgr⟩
  · show World.ownsRow _ _ _ _ _ _ _
    rw [HL.out, ← HN.out]
    exact hown'
  · rcases hat with h | h
    · exact .inl h
    · exact .inr ⟨_, h, Nat.le_refl _⟩

set_option maxRecDepth 100000 in
theorem over_lenX (xs : List Value) (o : Nat) (cs : List Value) (h : o + cs.length ≤ xs.length) : (overX xs o cs).length = xs.length := by
  unfold overX
  rw [List.length_append, List.length_append, List.length_take, List.length_drop]
  omega
set_option maxRecDepth 100000 in
theorem over_shiftX (E D z : List Value) (n i : Nat) (hE : E.length = (n + 1) * 12) (hD : D.length = n * 12) (hi : i ≤ n) (ht : E.take (i * 12) = D.take (i * 12)) (hz : z.length = 12) :
    overX (overX E ((i + 1) * 12) (D.drop (i * 12))) (i * 12) z = D.take (i * 12) ++ (z ++ D.drop (i * 12)) := by
  have hl : (D.drop (i * 12)).length = (n - i) * 12 := by rw [List.length_drop, hD]; omega
  have h1 : overX E ((i + 1) * 12) (D.drop (i * 12)) = E.take ((i + 1) * 12) ++ D.drop (i * 12) := by
    unfold overX
    rw [hl, List.drop_of_length_le (l := E) (by rw [hE]; omega), List.append_nil]
  have htl : (E.take ((i + 1) * 12)).length = (i + 1) * 12 := by rw [List.length_take, hE]; omega
  rw [h1]
  unfold overX
  rw [List.take_append_of_le_length (by omega), List.take_take, Nat.min_eq_left (by omega), ht, List.append_assoc, hz, List.drop_append, htl, List.drop_of_length_le (by omega), List.nil_append, show i * 12 + 12 - (i + 1) * 12 = 0 by omega, List.drop_zero]
set_option maxRecDepth 100000 in
theorem over_growX (E D z : List Value) (n i : Nat) (hE : E.length = (n + 1) * 12) (hD : D.length = n * 12) (hi : i ≤ n) (ht : E.take (i * 12) = D.take (i * 12)) (hz : z.length = 12) :
    overX (overX E (i * 12) z) ((i + 1) * 12) (D.drop (i * 12)) = D.take (i * 12) ++ (z ++ D.drop (i * 12)) := by
  have hl : (D.drop (i * 12)).length = (n - i) * 12 := by rw [List.length_drop, hD]; omega
  have hol : (overX E (i * 12) z).length = (n + 1) * 12 := by rw [over_lenX E _ z (by omega), hE]
  have h1 : overX (overX E (i * 12) z) ((i + 1) * 12) (D.drop (i * 12)) = (overX E (i * 12) z).take ((i + 1) * 12) ++ D.drop (i * 12) := by
    show (overX E (i * 12) z).take ((i + 1) * 12) ++ D.drop (i * 12) ++ (overX E (i * 12) z).drop ((i + 1) * 12 + (D.drop (i * 12)).length) = _
    rw [hl, List.drop_of_length_le (l := overX E (i * 12) z) (by rw [hol]; omega), List.append_nil]
  rw [h1]
  unfold overX
  rw [ht]
  have htl : (D.take (i * 12) ++ z).length = (i + 1) * 12 := by rw [List.length_append, List.length_take, hD, hz]; omega
  rw [List.take_append_of_le_length (by omega), List.take_of_length_le (by omega), List.append_assoc]
set_option maxRecDepth 100000 in
theorem dslice_midX (n c k g : Nat) (hk : k ≤ n) (hc : k < c) : ∀ W : World, (Instr.slice 22 (.slice (some ⟨g, 0, none⟩) n c) (some (.int .i64 (k : Int))) none none).run Try.prog W = .ok (.slice (some ⟨g, k * 12, none⟩) (n - k) (c - k)) W := by
  intro W
  rw [dsliceX_from n c k hk (some ⟨g, 0, none⟩) W]
  unfold sliced
  rw [if_neg (by omega)]
  congr 2
  show some ((⟨g, 0, none⟩ : Addr).add (k * 12)) = _
  rw [Go.WideShapes.add_plain, Nat.zero_add]
set_option maxRecDepth 100000 in
theorem step_copy_runX {ops : Array Oper} {o : Oper} {a : Act} {w : World} {K : Act → World → Prop} {Q : Exit → Act → World → Prop} {E : Prop}
    (hg : o.guard = none) (d x : Operand) (hop : o.op = Op.call { callee := Callee.builtin Builtin.copy, args := #[d, x], argTypes := #[22, 22] })
    (v u : Value) (hd : a.eval d = v) (hx : a.eval x = u) {v' : Value} {w' : World} (hr : (Builtin.copy_ #[22, 22] o.type #[v, u]).run Try.prog w = .ok v' w') (hK : K (a.put o.dst v') w') :
    if Region.wanted o (yielded ops a.tmps) = true then Oper.wp Try.prog o a w K Q else E := by
  have hw : Region.wanted o (yielded ops a.tmps) = true := by simp [Region.wanted, hg]
  rw [if_pos hw]
  unfold Oper.wp
  simp [execOp, hop, resolve, invoke, builtin, hd, hx, hr, Result.andThen]
  exact hK
set_option maxRecDepth 100000 in
theorem apartX (vb b : Nat) (hne : vb ≠ b) (w : World) (tA tB : TypeId) (kA kB : Nat) (hsa : w.shape? vb = some (tA, kA)) (hsb : w.shape? b = some (tB, kB)) (hkB : kB ≠ 0) (hfa : ∀ j, w.frozen? ⟨vb, j, none⟩ = false) (o m vc lb cb : Nat) :
    (callFunc 49 #[.slice (some ⟨vb, 0, none⟩) m vc, .slice (some ⟨b, o, none⟩) lb cb]).run Try.prog w = .ok (.value (.bool false)) w := by
  rw [run_callFunc_extern Try.func49 (by kernel_rfl) (by kernel_rfl) (by kernel_rfl) (e := Extern.SlicesOverlaps.overlaps #[22, 22] #[4]) (by kernel_rfl),
    Lib.run_overlaps_apart w 22 4 38 Try.underlying22 12 sizeTxI ⟨vb, 0, none⟩ ⟨b, o, none⟩ m vc lb cb hne tA tB kA kB hsa hsb hkB (hfa 0) (hfa kA)]
  rfl

set_option maxRecDepth 100000 in
set_option maxHeartbeats 4000000 in
theorem insert_shiftX (v : Value) (M : List TR) (B i vb Bv : Nat) (x : TR) (w : World) (hv : XO w B v M) (hi : i < M.length) (hroom : ∀ A n c, v = .slice A n c → n + 1 ≤ c) (hvb : v.ownBlock ≠ some vb)
    (hx : w.ownsRow Bv 38 12 (.slice (some ⟨vb, 0, none⟩) 1 1) 1 (trcells x)) :
    Calls Try.prog 37 #[v, .int .i64 (i : Int), .slice (some ⟨vb, 0, none⟩) 1 1] w fun e w' => RetInsX M B i x v w e w' := by
  obtain ⟨g, c, rfl⟩ := XO.addr hv hi
  have hrm := hroom _ _ _ rfl
  obtain ⟨hnc, hc63, _, hgl⟩ := own_len (XO.row hv)
  have hne : vb ≠ g := fun e => hvb (by rw [e]; rfl)
  have HONE := Lib.hid (trs_one M)
  obtain ⟨D, hD⟩ : ∃ D, D = trs M := ⟨_, rfl⟩
  have hDl : D.length = M.length * 12 := by rw [hD, trs_len]
  have HI : Hid (trs (M.insertIdx i x) = D.take (i * 12) ++ (trcells x ++ D.drop (i * 12))) := Lib.hid (by rw [hD]; exact trs_insertX M i _ (by omega))
  have HL : Hid ((M.insertIdx i x).length = M.length + 1) := Lib.hid (by rw [List.length_insertIdx, if_pos (by omega)])
  have HR : Hid (w.ownsRow B 38 12 (.slice (some ⟨g, 0, none⟩) M.length c) M.length D) := Lib.hid (by rw [hD]; exact (XO.row hv))
  rw [← hD] at HONE
  clear hv hD hroom
  obtain ⟨n, hn⟩ : ∃ n, n = M.length := ⟨_, rfl⟩
  rw [← hn] at HR HL hnc hi hDl hrm ⊢
  clear hn
  obtain ⟨ys, hys, h1⟩ := own_moreX HR.out hrm
  have h1d := own_gr h1 (Gr.refl _).drew
  have hxd := own_gr hx (Gr.refl _).drew
  have hEl : (D ++ ys).length = (n + 1) * 12 := by rw [List.length_append, hDl, hys]; omega
  have hdl : (D.drop (i * 12)).length = (n - i) * 12 := by rw [List.length_drop, hDl]; omega
  obtain ⟨u1, hcp1⟩ := run_copy_draftX w.drew 3 g ((i + 1) * 12) (n - i) (c - (i + 1)) ⟨g, i * 12, none⟩ (n + 1 - i) (c - i) (D.drop (i * 12)) (by rw [hdl]; simp only [Nat.min_def]; split <;> omega)
    (fun j u hj => by
      rw [Go.WideShapes.add_plain]
      show w.drew.cell? ⟨g, i * 12 + j, none⟩ = some u
      rw [List.getElem?_drop] at hj
      have hjl : i * 12 + j < D.length := (List.getElem?_eq_some_iff.1 hj).1
      rw [h1d.cellAt (i * 12 + j) (by omega), List.getElem?_append_left hjl]
      exact hj)
    (fun j hj => by rw [hdl] at hj; rw [h1d.cellAt _ (by omega), List.getElem?_eq_getElem (by omega)]; rfl)
    (fun j _ => h1d.frozenAt _) (fun u hu => HONE.out u (List.mem_of_mem_drop hu))
  obtain ⟨h5, k5⟩ := own_setCellsX (D.drop (i * 12)) ((i + 1) * 12) w.drew _ h1d (by rw [hdl, hEl]; omega)
  obtain ⟨w5, hw5⟩ : ∃ w5, w5 = w.drew.setCells g ((i + 1) * 12) (D.drop (i * 12)) := ⟨_, rfl⟩
  rw [← hw5] at hcp1 h5 k5
  have hx5 := World.ownsRow.kept hxd k5 (.inr (fun e => hne (Option.some.inj e)))
  obtain ⟨u2, hcp2⟩ := run_copy_draftX w5 3 g (i * 12) (n + 1 - i) (c - i) ⟨vb, 0, none⟩ 1 1 (trcells x) (by rw [trcells_len]; simp only [Nat.min_def]; split <;> omega)
    (fun j u hj => by
      rw [Go.WideShapes.add_plain, Nat.zero_add]
      have hjl : j < 12 := (List.getElem?_eq_some_iff.1 hj).1
      rw [hx5.cellAt j (by omega)]
      exact hj)
    (fun j hj => by rw [trcells_len] at hj; rw [h5.cellAt _ (by omega), List.getElem?_eq_getElem (by rw [over_lenX _ _ _ (by rw [hdl, hEl]; omega), hEl]; omega)]; rfl)
    (fun j _ => h5.frozenAt _) (trcell_one x)
  obtain ⟨h6, k6⟩ := own_setCellsX (trcells x) (i * 12) w5 _ h5 (by rw [trcells_len, over_lenX _ _ _ (by rw [hdl, hEl]; omega), hEl]; omega)
  rw [over_shiftX (D ++ ys) D _ n i hEl hDl (by omega) (List.take_append_of_le_length (by omega)) (trcells_len _), ← HI.out] at h6
  obtain ⟨w6, hw6⟩ : ∃ w6, w6 = w5.setCells g (i * 12) (trcells x) := ⟨_, rfl⟩
  rw [← hw6] at hcp2 h6 k6
  have HQ : Hid (w6.ownsRow B 38 12 (.slice (some ⟨g, 0, none⟩) (n + 1) c) (n + 1) (trs (M.insertIdx i x)) ∧ Kp (some g) w w6) := Lib.hid ⟨h6, Kp.trans (Kp.of_gr (Gr.refl _).drew) (Kp.trans k5 k6)⟩
  have hov := apartX vb g hne w _ _ _ _ (own_shapeX hx) (own_shapeX h1) (by omega) hx.frozenAt ((i + 1) * 12) 1 1 (n - i) (c - (i + 1))
  have hs1 := dslice_midX n c i g (by omega) (by omega)
  have hs2 := dsliceX_to n c (n + 1) hrm (some ⟨g, 0, none⟩)
  have hs3 := dslice_midX (n + 1) c (i + 1) g (by omega) (by omega)
  have hs4 := dslice_midX (n + 1) c i g (by omega) (by omega)
  rw [show (((n + 1 : Nat) : Int)) = (n : Int) + 1 by omega] at hs2
  rw [show (((i + 1 : Nat) : Int)) = (i : Int) + 1 by omega, show n + 1 - (i + 1) = n - i by omega] at hs3
  have e1 : IntKind.i64.wrap ((n : Int) + 1) = (n : Int) + 1 := IntWalk.i64_in _ ⟨by omega, by omega⟩
  have e2 : IntKind.i64.wrap ((i : Int) + 1) = (i : Int) + 1 := IntWalk.i64_in _ ⟨by omega, by omega⟩
  have e3 : ¬ ((i : Int) = (n : Int)) := by omega
  have e4 : ¬ ((c : Int) < (n : Int) + 1) := by omega
  have HC1 := Lib.hid hcp1
  clear h1 h1d hxd hx5 h5 k5 h6 k6 hcp1 hw5 hw6 hx hvb hdl hEl
  go_enter Try.func37, Try.ntmps37
  go_wp2_with (simp only [hov])
  have HC2 := Lib.hid hcp2
  clear hcp2 hov
  go_region_law
    (refine step_copy_runX rfl (.tmp 73) (.tmp 76) rfl _ _ (by simp [Act.eval, Act.put]) (by simp [Act.eval, Act.put]) HC1.out ?_)
  have hcp2 := HC2.out
  go_wp2_with fail
  go_ret
  refine ⟨_, rfl, ?_, .inl rfl, HQ.out.2⟩
  show World.ownsRow _ _ _ _ _ _ _
  rw [HL.out]
  exact HQ.out.1

set_option maxRecDepth 100000 in
theorem grown_zerosX {w : World} {B i n g c : Nat} {D : List Value} (h : w.ownsRow B 38 12 (.slice (some ⟨g, 0, none⟩) n c) n D) (hi : i < n) (hroom : c < n + 1) (hbig : (n + 1) * 112 ≤ 140737488355328) :
    ∃ G W1 E, (∀ ty, (Builtin.append_ #[22, 3] ty #[.slice (some ⟨g, 0, none⟩) i c, .int .i64 ((n : Int) + 1 - (i : Int))]).run Try.prog w = .ok (.slice (some ⟨w.heap.size, 0, none⟩) (n + 1) G) W1) ∧
      W1.ownsRow w.heap.size 38 12 (.slice (some ⟨w.heap.size, 0, none⟩) (n + 1) G) (n + 1) E ∧ E.take (i * 12) = D.take (i * 12) ∧ Gr w W1 := by
  obtain ⟨i0, hi0, hz0, hz1, hz2⟩ := info_parts infoTxn
  have hp := own_gr (own_prefix h (k := i) (by omega)) (Gr.refl _).drew
  have hl := h.1
  have hold : (Builtin.firstCells i0.size i (.slice (some ⟨g, 0, none⟩) i c)).run Try.prog w.drew = .ok (D.take (i * 12)).toArray w.drew := by
    rw [hz1]
    exact run_firstCells_some w.drew 12 i ⟨g, 0, none⟩ i c (D.take (i * 12)) hp.1 (fun j u hj => by
      rw [Go.WideShapes.add_plain, Nat.zero_add]
      have hjl := (List.getElem?_eq_some_iff.1 hj).1
      have := hp.1
      rw [hp.cellAt j (by omega)]
      exact hj)
  have hr : ∀ ty, _ := fun ty => Lib.run_append_grow_zeros (P := Try.prog) w 22 3 ty 38 i0 _ .i64 .i64 Try.underlying22 Try.underlying3 hi0 hz0 (some ⟨g, 0, none⟩) i c (D.take (i * 12)) hold (n + 1 - i) (by omega) (by omega) (by omega) (by omega) (by rw [hz2]; omega) (by rw [hz2, show i + (n + 1 - i) = n + 1 by omega]; exact growslice_fits hroom hbig)
  rw [show i + (n + 1 - i) = n + 1 by omega] at hr
  have hG := grownCap_ge w (n + 1) c 38
  have hG2 := grownCap_le_maxLen w (n + 1) c 38 (by unfold maxLen; omega)
  obtain ⟨G, hGe⟩ : ∃ G, G = grownCap w (n + 1) c 38 := ⟨_, rfl⟩
  rw [← hGe] at hr hG hG2
  obtain ⟨ROW, hROW⟩ : ∃ ROW : Array Value, ROW = (D.take (i * 12)).toArray ++ Builtin.zeroCells (Value.agg zeroX).cells (n + 1 - i) ++ Builtin.zeroCells (Value.agg zeroX).cells (G - (n + 1)) := ⟨_, rfl⟩
  rw [← hROW] at hr
  have hcz : ∀ k, (Builtin.zeroCells (Value.agg zeroX).cells k).size = k * 12 := fun k => by
    have : (Value.agg zeroX).cells.size = 12 := by kernel_rfl
    simp [Builtin.zeroCells, this]
  have htl : (D.take (i * 12)).length = i * 12 := by rw [List.length_take]; omega
  have hRs : ROW.size = G * 12 := by
    rw [hROW, Array.size_append, Array.size_append, hcz, hcz, List.size_toArray, htl]
    omega
  refine ⟨G, w.drew.alloc (.cells ROW 38), ROW.toList.take ((n + 1) * 12), ?_, ?_, ?_, (Gr.refl w).drew.alloc _⟩
  · intro ty
    rw [show (n : Int) + 1 - (i : Int) = ((n + 1 - i : Nat) : Int) by omega]
    exact hr ty
  · refine ⟨by rw [List.length_take, Array.length_toList, hRs]; omega, .inr ⟨w.heap.size, G, ROW, rfl, Nat.le_refl _, heap_alloc_new w.drew _, hG, hG2, hRs, rfl⟩⟩
  · rw [List.take_take, Nat.min_eq_left (by omega), hROW, Array.toList_append, Array.toList_append, List.append_assoc, List.take_left' (by rw [htl])]

set_option maxRecDepth 100000 in
set_option maxHeartbeats 4000000 in
theorem insert_growX (v : Value) (M : List TR) (B i vb Bv : Nat) (x : TR) (w : World) (hv : XO w B v M) (hB : B ≤ w.heap.size) (hi : i < M.length) (hroom : ∀ A n c, v = .slice A n c → c < n + 1) (hbig : (M.length + 1) * 112 ≤ 140737488355328)
    (hx : w.ownsRow Bv 38 12 (.slice (some ⟨vb, 0, none⟩) 1 1) 1 (trcells x)) :
    Calls Try.prog 37 #[v, .int .i64 (i : Int), .slice (some ⟨vb, 0, none⟩) 1 1] w fun e w' => RetInsX M B i x v w e w' := by
  obtain ⟨g, c, rfl⟩ := XO.addr hv hi
  have hrm := hroom _ _ _ rfl
  obtain ⟨hnc, hc63, _, hgl⟩ := own_len (XO.row hv)
  have HONE := Lib.hid (trs_one M)
  obtain ⟨D, hD⟩ : ∃ D, D = trs M := ⟨_, rfl⟩
  have hDl : D.length = M.length * 12 := by rw [hD, trs_len]
  have HI : Hid (trs (M.insertIdx i x) = D.take (i * 12) ++ (trcells x ++ D.drop (i * 12))) := Lib.hid (by rw [hD]; exact trs_insertX M i _ (by omega))
  have HL : Hid ((M.insertIdx i x).length = M.length + 1) := Lib.hid (by rw [List.length_insertIdx, if_pos (by omega)])
  have HR : Hid (w.ownsRow B 38 12 (.slice (some ⟨g, 0, none⟩) M.length c) M.length D) := Lib.hid (by rw [hD]; exact (XO.row hv))
  rw [← hD] at HONE
  clear hv hD hroom
  obtain ⟨n, hn⟩ : ∃ n, n = M.length := ⟨_, rfl⟩
  rw [← hn] at HR HL hnc hi hDl hrm hbig ⊢
  clear hn
  obtain ⟨G, W1, E, hgz, h1, hEt, hG1⟩ := grown_zerosX HR.out hi hrm hbig
  obtain ⟨H, hH⟩ : ∃ H, H = w.heap.size := ⟨_, rfl⟩
  rw [← hH] at hgz h1
  have hEl : E.length = (n + 1) * 12 := h1.1
  obtain ⟨hG1', hG63, _, hHl⟩ := own_len h1
  have hx1 := own_gr hx hG1
  have hvb : vb < w.heap.size := (own_len hx).2.2.2
  have hr1 := own_gr HR.out hG1
  have hdl : (D.drop (i * 12)).length = (n - i) * 12 := by rw [List.length_drop, hDl]; omega
  obtain ⟨u1, hcp1⟩ := run_copy_draftX W1 3 H (i * 12) (n + 1 - i) (G - i) ⟨vb, 0, none⟩ 1 1 (trcells x) (by rw [trcells_len]; simp only [Nat.min_def]; split <;> omega)
    (fun j u hj => by
      rw [Go.WideShapes.add_plain, Nat.zero_add]
      have hjl : j < 12 := (List.getElem?_eq_some_iff.1 hj).1
      rw [hx1.cellAt j (by omega)]
      exact hj)
    (fun j hj => by rw [trcells_len] at hj; rw [h1.cellAt _ (by omega), List.getElem?_eq_getElem (by omega)]; rfl)
    (fun j _ => h1.frozenAt _) (trcell_one x)
  obtain ⟨h5, k5⟩ := own_setCellsX (trcells x) (i * 12) W1 _ h1 (by rw [trcells_len, hEl]; omega)
  obtain ⟨w5, hw5⟩ : ∃ w5, w5 = W1.setCells H (i * 12) (trcells x) := ⟨_, rfl⟩
  rw [← hw5] at hcp1 h5 k5
  have hol : (overX E (i * 12) (trcells x)).length = (n + 1) * 12 := by rw [over_lenX _ _ _ (by rw [trcells_len, hEl]; omega), hEl]
  have h5d := own_gr h5 (Gr.refl _).drew
  have hr5 := own_gr (World.ownsRow.kept hr1 k5 (.inr (fun e => by have : g = H := Option.some.inj e; omega))) (Gr.refl _).drew
  obtain ⟨u2, hcp2⟩ := run_copy_draftX w5.drew 3 H ((i + 1) * 12) (n - i) (G - (i + 1)) ⟨g, i * 12, none⟩ (n - i) (c - i) (D.drop (i * 12)) (by rw [hdl]; simp only [Nat.min_def]; split <;> omega)
    (fun j u hj => by
      rw [Go.WideShapes.add_plain]
      show w5.drew.cell? ⟨g, i * 12 + j, none⟩ = some u
      rw [List.getElem?_drop] at hj
      have hjl : i * 12 + j < D.length := (List.getElem?_eq_some_iff.1 hj).1
      rw [hr5.cellAt (i * 12 + j) (by omega)]
      exact hj)
    (fun j hj => by rw [hdl] at hj; rw [h5d.cellAt _ (by omega), List.getElem?_eq_getElem (by omega)]; rfl)
    (fun j _ => h5d.frozenAt _) (fun u hu => HONE.out u (List.mem_of_mem_drop hu))
  obtain ⟨h6, k6⟩ := own_setCellsX (D.drop (i * 12)) ((i + 1) * 12) w5.drew _ h5d (by rw [hdl, hol]; omega)
  rw [over_growX E D _ n i hEl hDl (by omega) hEt (trcells_len _), ← HI.out] at h6
  obtain ⟨w6, hw6⟩ : ∃ w6, w6 = w5.drew.setCells H ((i + 1) * 12) (D.drop (i * 12)) := ⟨_, rfl⟩
  rw [← hw6] at hcp2 h6 k6
  have hkH : Kp (some H) w w6 := Kp.trans (Kp.of_gr hG1) (Kp.trans k5 (Kp.trans (Kp.of_gr (Gr.refl _).drew) k6))
  have hgr : Gr w w6 := hkH.below (by omega) (fun g' hg' => by have := Option.some.inj hg'; omega)
  have HQ : Hid (w6.ownsRow B 38 12 (.slice (some ⟨H, 0, none⟩) (n + 1) G) (n + 1) (trs (M.insertIdx i x)) ∧ Kp (some g) w w6) := Lib.hid ⟨own_le h6 (by omega), Kp.of_gr hgr⟩
  have hs0 := dsliceX_to n c i (by omega) (some ⟨g, 0, none⟩)
  have hs1 := dslice_midX n c i g (by omega) (by omega)
  have hs3 := dslice_midX (n + 1) G (i + 1) H (by omega) (by omega)
  have hs4 := dslice_midX (n + 1) G i H (by omega) (by omega)
  rw [show (((i + 1 : Nat) : Int)) = (i : Int) + 1 by omega, show n + 1 - (i + 1) = n - i by omega] at hs3
  have e1 : IntKind.i64.wrap ((n : Int) + 1) = (n : Int) + 1 := IntWalk.i64_in _ ⟨by omega, by omega⟩
  have e2 : IntKind.i64.wrap ((i : Int) + 1) = (i : Int) + 1 := IntWalk.i64_in _ ⟨by omega, by omega⟩
  have e5 : IntKind.i64.wrap ((n : Int) + 1 - (i : Int)) = (n : Int) + 1 - (i : Int) := IntWalk.i64_in _ ⟨by omega, by omega⟩
  have e3 : ¬ ((i : Int) = (n : Int)) := by omega
  have e4 : (c : Int) < (n : Int) + 1 := by omega
  have HC2 := Lib.hid hcp2
  have HH := Lib.hid hH
  clear h1 hx1 h5 k5 h6 k6 hcp2 hw5 hw6 hx hvb hdl hEl hEt hG1 hol h5d hr5 hr1 hkH hgr hH
  go_enter Try.func37, Try.ntmps37
  go_wp2_with (at_builtin; refine Lib.wpList_append_run _ rfl _ _ _ _ rfl _ _ rfl rfl _ _ (hgz _) ?_)
  go_region_law
    (refine step_copy_runX rfl (.tmp 50) (.tmp 53) rfl _ _ (by simp [Act.eval, Act.put]) (by simp [Act.eval, Act.put]) HC2.out ?_)
  go_wp2_with fail
  go_ret
  refine ⟨_, rfl, ?_, .inr ⟨H, rfl, by rw [HH.out]; exact Nat.le_refl _⟩, HQ.out.2⟩
  show World.ownsRow _ _ _ _ _ _ _
  rw [HL.out]
  exact HQ.out.1
set_option maxRecDepth 100000 in
theorem insert_anyX (v : Value) (M : List TR) (B i vb Bv : Nat) (x : TR) (w : World) (hv : XO w B v M) (hB : B ≤ w.heap.size) (hi : i ≤ M.length) (hlen : (M.length + 1) * 112 ≤ 140737488355328) (hvb : v.ownBlock ≠ some vb)
    (hx : w.ownsRow Bv 38 12 (.slice (some ⟨vb, 0, none⟩) 1 1) 1 (trcells x)) :
    Calls Try.prog 37 #[v, .int .i64 (i : Int), .slice (some ⟨vb, 0, none⟩) 1 1] w fun e w' => RetInsX M B i x v w e w' := by
  rcases Nat.lt_or_ge i M.length with h | h
  · obtain ⟨A, c, hva, _⟩ := own_form (XO.row hv)
    rcases Nat.lt_or_ge c (M.length + 1) with hc | hc
    · exact insert_growX v M B i vb Bv x w hv hB h (fun A' n' c' e => by rw [hva] at e; injection e with e1 e2 e3; omega) hlen hx
    · exact insert_shiftX v M B i vb Bv x w hv h (fun A' n' c' e => by rw [hva] at e; injection e with e1 e2 e3; omega) hvb hx
  · obtain rfl : i = M.length := by omega
    exact insert_endX v M B vb Bv x w hv hB hlen hx
end Go.Proofs.Ytjpiemgpbakfaaa
