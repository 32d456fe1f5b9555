/- Walks: a table's pair as a change, a change's value, the program's. Blocks and rows: what a store or a grown row leaves. It names no function. Walks: the changes of all tables, the program's. -/
import Derived.Test.YtlnhbndghnkfmaaGreatDoorZm17
import Derived.Test.YtlnhbndghnkfmaaGreatDoorZm11
import Derived.Test.YtlnhbndghnkfmaaGreatDoorZm16
import Derived.Test.YtlnhbndghnkfmaaGreatDoorZm04
namespace Go.Proofs.YtlnhbndghnkfmaaGreatDoor
open Go.RowKit

def pB : ByteArray := ⟨#[112]⟩
/-- The change that a table's pair is. -/
def fromPR (p : PR) : CR := if cutP p.val pB then ⟨p.key, p.val.extract 1 p.val.size, false⟩ else ⟨p.key, ⟨#[]⟩, true⟩
def cval (c : CR) : Value := .agg #[.string c.key, .string c.val, .bool c.gone]
set_option maxRecDepth 100000 in
theorem fromTable_any (p : PR) (hs : p.val.size ≤ 9223372036854775807) (w : World) :
    Calls Tryz.prog 59 #[.agg #[.string p.key, .string p.val]] w fun e w' => e = .returned (cval (fromPR p)) ∧ Gr w w' := by
  obtain ⟨k, v⟩ := p
  rcases hc : cutP v pB with _ | _
  · have H1 := Lib.hid (fun w => cutp_no v pB hs hc w)
    have HF : Hid (fromPR ⟨k, v⟩ = ⟨k, ⟨#[]⟩, true⟩) := Lib.hid (by unfold fromPR; rw [show (⟨k, v⟩ : PR).val = v from rfl, hc]; rfl)
    unfold pB at H1
    clear hc hs
    go_enter Tryz.func59, Tryz.ntmps59
    go_wp2_with fail
    refine (H1.out _).mono ?_
    rintro e w1 ⟨rfl, rfl⟩
    go_wp2_with fail
    refine bodyPost_ret (v := .agg #[.string k, .string ⟨#[]⟩, .bool true]) (by simp [results, Tryz.results59, go_sem]) rfl ⟨by rw [HF.out]; rfl, (gr_box _ _).alloc _⟩
  · have H1 := Lib.hid (fun w => cutp_yes v pB hs hc w)
    have HF : Hid (fromPR ⟨k, v⟩ = ⟨k, v.extract 1 v.size, false⟩) := Lib.hid (by unfold fromPR; rw [show (⟨k, v⟩ : PR).val = v from rfl, hc]; rfl)
    unfold pB at H1
    clear hc hs
    go_enter Tryz.func59, Tryz.ntmps59
    go_wp2_with fail
    refine (H1.out _).mono ?_
    rintro e w1 ⟨rfl, rfl⟩
    go_wp2_with fail
    refine bodyPost_ret (v := .agg #[.string k, .string (v.extract 1 v.size), .bool false]) (by simp [results, Tryz.results59, go_sem]) rfl ⟨by rw [HF.out]; rfl, (gr_box _ _).alloc _⟩
set_option maxRecDepth 100000 in
theorem there_any (c : CR) (hs : c.val.size ≤ 281474976710656) (w : World) :
    Calls Tryz.prog 55 #[cval c] w fun e w' => e = .returned (if c.gone then .tuple #[.string ⟨#[]⟩, .bool false] else .tuple #[.string c.val, .bool true]) ∧ Gr w w' := by
  obtain ⟨k, v, g⟩ := c
  have H1 := Lib.hid (fun w => clone_any v hs w)
  unfold cval
  rcases g with _ | _
  · go_enter Tryz.func55, Tryz.ntmps55
    go_wp2_with fail
    refine (H1.out _).mono ?_
    rintro e w1 ⟨rfl, g1⟩
    have HG := Lib.hid ((gr_box _ _).trans g1)
    clear g1
    go_wp2_with fail
    go_ret2
    exact ⟨rfl, HG.out⟩
  · go_enter Tryz.func55, Tryz.ntmps55
    go_wp2_with fail
    go_ret2
    exact ⟨rfl, gr_box _ _⟩
/-- The pairs of a table's file, if it is there and is a table. -/
noncomputable def inTab (L : List F) (nm : ByteArray) : Option (List PR) := if (bytesF L nm).2 = 0 then allR (bytesF L nm).1.data.toList else none
/-- A call's answer: pairs, and whether there are any to tell. -/
def RetTab (o : Option (List PR)) (w : World) (e : Ending) (w' : World) : Prop := ∃ v, e = .returned (.tuple #[v, .bool o.isSome]) ∧ PO w' w.heap.size v (o.getD []) ∧ (∀ p ∈ o.getD [], p.key.size ≤ 65536 ∧ p.val.size ≤ 65536) ∧ Gr w w'
set_option maxRecDepth 100000 in
theorem inTable_any (v : Value) (L : List F) (nm : ByteArray) (w : World) (hv : FV w v L) (hf : Fit L) (hH : Halves w) :
    Calls Tryz.prog 104 #[.agg #[v], .string nm] w fun e w' => RetTab (inTab L nm) w e w' := by
  have H1 := Lib.hid (fun w1 (g : Gr w w1) => bytes_any v L nm w1 (hv.gr g) hf)
  have hbs : (bytesF L nm).1.size ≤ maxLen := by
    unfold bytesF
    cases hq : L[findF L nm]? with
    | none => unfold maxLen; decide
    | some f =>
      have := hf f (List.mem_of_getElem? hq)
      unfold FitF F.size at this
      show (f.kept ++ f.loose).size ≤ maxLen
      rw [ByteArray.size_append]
      unfold maxLen
      omega
  have H2 := Lib.hid (fun w1 (g : Gr w w1) => all_own (bytesF L nm).1 hbs w1 (hH.gr g))
  have HI : Hid (inTab L nm = if (bytesF L nm).2 = 0 then allR (bytesF L nm).1.data.toList else none) := Lib.hid rfl
  unfold bytesV at H1
  have hn30 : (bytesF L nm).2 ≤ 30 := by
    unfold bytesF
    cases L[findF L nm]? with
    | none => exact Nat.le_refl _
    | some f => exact Nat.zero_le _
  obtain ⟨b, hb⟩ : ∃ b, b = (bytesF L nm).1 := ⟨_, rfl⟩
  obtain ⟨n, hn⟩ : ∃ n, n = (bytesF L nm).2 := ⟨_, rfl⟩
  rw [← hb] at H2
  rw [← hb, ← hn] at H1 HI
  rw [← hn] at hn30
  obtain ⟨A, c, rfl⟩ : ∃ A c, v = .slice A L.length c := by
    obtain ⟨A, c, h, _⟩ := hv
    exact ⟨A, c, h⟩
  clear hv hf hH hb hn hbs
  have HG0 := Lib.hid (gr_box w (.cells #[.slice A L.length c] 24))
  by_cases h0 : n = 0
  · have HI2 := Lib.hid (HI.out.trans (if_pos h0))
    have t0 : (n : Int) = 0 := by omega
    clear h0
    go_enter Tryz.func104, Tryz.ntmps104
    go_wp2_with fail
    refine (H1.out _ HG0.out).mono ?_
    rintro e w1 ⟨rfl, g1⟩
    have HG1 := Lib.hid (HG0.out.trans g1)
    have H3 := Lib.hid (H2.out _ HG1.out)
    clear g1
    rcases ha : allR b.data.toList with _ | M
    · rw [ha] at H3 HI2
      clear ha
      go_wp2_with fail
      refine H3.out.mono ?_
      rintro e w2 ⟨rfl, g2⟩
      have HG2 := Lib.hid (HG1.out.trans g2)
      clear g2
      go_wp2_with fail
      go_ret2
      rw [HI2.out]
      exact ⟨_, rfl, PO.nil _ _, fun p hp => (by cases hp), HG2.out⟩
    · rw [ha] at H3 HI2
      clear ha
      go_wp2_with fail
      refine H3.out.mono ?_
      rintro e w2 ⟨u, rfl, po, hsm, g2⟩
      have HG2 := Lib.hid (HG1.out.trans g2)
      have HPO := Lib.hid (And.intro (po.le HG1.out.size) hsm)
      clear g2 po hsm
      go_wp2_with fail
      go_ret2
      rw [HI2.out]
      exact ⟨_, rfl, HPO.out.1, HPO.out.2, HG2.out⟩
  · have HI2 := Lib.hid (HI.out.trans (if_neg h0))
    have t0 : ¬ (n : Int) = 0 := by omega
    clear h0
    go_enter Tryz.func104, Tryz.ntmps104
    go_wp2_with fail
    refine (H1.out _ HG0.out).mono ?_
    rintro e w1 ⟨rfl, g1⟩
    have HG1 := Lib.hid (HG0.out.trans g1)
    clear g1
    go_wp2_with fail
    go_ret2
    rw [HI2.out]
    exact ⟨_, rfl, PO.nil _ _, fun p hp => (by cases hp), HG1.out⟩
end Go.Proofs.YtlnhbndghnkfmaaGreatDoor
namespace Go.Proofs.YtlnhbndghnkfmaaGreatDoor
open Go.RowKit

/-- A row of another type stays where a row is changed. -/
theorem own_past {w w' : World} {B size size' n n' : Nat} {t t' : TypeId} {v u : Value} {xs ys : List Value} (h : w.ownsRow B t size v n xs) (hc : w.ownsRow B t' size' u n' ys) (ht : t ≠ t') (k : Kp u.ownBlock w w') : w'.ownsRow B t size v n xs := by
  refine World.ownsRow.kept h k ?_
  cases hb : v.ownBlock with
  | none => exact .inl rfl
  | some b => exact .inr fun e => own_types h hc ht hb e.symm
/-- What lies at a block that no row of another type owns. -/
theorem kp_obj {r : Option Nat} {w w' : World} (k : Kp r w w') {b : Nat} {o : Obj} (h : w.heap[b]? = some o) (hr : r ≠ some b) : w'.heap[b]? = some o := by
  rw [k.block b (Array.getElem?_eq_some_iff.1 h).1 (fun e => hr e.symm)]
  exact h
theorem gr_obj {w w' : World} (g : Gr w w') {b : Nat} {o : Obj} (h : w.heap[b]? = some o) : w'.heap[b]? = some o := by
  rw [g.block b (Array.getElem?_eq_some_iff.1 h).1]
  exact h
theorem own_ne_obj {w : World} {B size n : Nat} {t t' : TypeId} {v : Value} {xs : List Value} {b : Nat} {cs : Array Value} {fr : Nat × Nat} (h : w.ownsRow B t size v n xs) (ho : w.heap[b]? = some (.cells cs t' fr)) (ht : t ≠ t') : v.ownBlock ≠ some b := by
  intro e
  rcases h.2 with ⟨rfl, _⟩ | ⟨g, cap, cur, rfl, _, hg, _⟩
  · cases e
  · have e1 : g = b := by simpa [Value.ownBlock] using e
    subst e1
    rw [hg] at ho
    injection ho with ho
    injection ho with _ ho
    exact ht ho
theorem obj_cell {w : World} {b i : Nat} {cs : Array Value} {t : TypeId} {fr : Nat × Nat} {v : Value} (h : w.heap[b]? = some (.cells cs t fr)) (hv : cs[i]? = some v) : w.cell? ⟨b, i, none⟩ = some v := by
  unfold World.cell?
  simp only [h]
  exact hv
theorem obj_free {w : World} {b i : Nat} {cs : Array Value} {t : TypeId} (h : w.heap[b]? = some (.cells cs t (0, 0))) : w.frozen? ⟨b, i, none⟩ = false := by
  unfold World.frozen?
  simp only [h]
  simp
theorem set_obj {w : World} {b i : Nat} {cs : Array Value} {t : TypeId} {fr : Nat × Nat} (h : w.heap[b]? = some (.cells cs t fr)) (v : Value) : (w.setCell ⟨b, i, none⟩ v).heap[b]? = some (.cells (cs.setIfInBounds i v) t fr) := by
  have hlt : b < w.heap.size := (Array.getElem?_eq_some_iff.1 h).1
  have he : w.heap[b] = .cells cs t fr := (Array.getElem?_eq_some_iff.1 h).2
  show (w.heap.modify b _)[b]? = _
  rw [Array.getElem?_eq_getElem (by simpa using hlt), Array.getElem_modify, if_pos rfl, he]
  rfl
theorem set_obj_other {w : World} {b b' i : Nat} {o : Obj} (h : w.heap[b']? = some o) (hne : b' ≠ b) (v : Value) : (w.setCell ⟨b, i, none⟩ v).heap[b']? = some o := by
  rw [Below.heap_setCell w ⟨b, i, none⟩ v b' hne]
  exact h
theorem own_set_obj {w : World} {B size n : Nat} {t t' : TypeId} {u : Value} {xs : List Value} {b i : Nat} {cs : Array Value} {fr : Nat × Nat} (h : w.ownsRow B t size u n xs) (ho : w.heap[b]? = some (.cells cs t' fr)) (ht : t ≠ t') (v : Value) : (w.setCell ⟨b, i, none⟩ v).ownsRow B t size u n xs :=
  World.ownsRow.kept h ((Kp.refl (some b) w).set (.inr rfl) i v) (.inr (own_ne_obj h ho ht))
end Go.Proofs.YtlnhbndghnkfmaaGreatDoor
namespace Go.Proofs.YtlnhbndghnkfmaaGreatDoor
open Go.RowKit

/-- append of changes to a row of the call's own: what else is changed. -/
theorem wpList_push_ck {W w0 : World} {ops : Array Oper} {rest : List Oper} {o : Oper} {a : Act} {Q : Exit → Act → World → Prop} (hw : Region.wanted o (yielded ops a.tmps) = true) (s x : Operand)
    (ho : o.op = .call { callee := .builtin .append, args := #[s, x], argTypes := #[27, 27] })
    (v vx : Value) (L M : List CR) (n m : Nat) (hn : n = L.length) (hm : m = M.length) (hs : a.eval s = v) (hown : CO W w0.heap.size v L) (hx : a.eval x = vx) (hxv : CV W vx M) (hlen : (n + m) * 40 ≤ 140737488355328) (hg : Gr w0 W)
    (h : ∀ A' c' w', CO w' w0.heap.size (.slice A' (n + m) c') (L ++ M) → Gr w0 w' → Kp v.ownBlock W w' → wpList Tryz.prog ops Q rest (a.put o.dst (.slice A' (n + m) c')) w') :
    wpList Tryz.prog ops Q (o :: rest) a W := by
  subst hn hm
  obtain ⟨i0, hi, hz0, hz1, hz2⟩ := info_parts infoChange
  have hsz := hg.size
  refine Go.BigFrame.wpList_want hw (fun K hK => ?_)
  refine wp_append_sl W s x 27 ho w0.heap.size 70 i0 _ 3 40 Tryz.underlying27 hi hz0 hz1 hz2 rfl (by decide) v L.length (ccells L) hs hown vx M.length (ccells M) hx
    hxv.sl (ccells_one M) (by unfold maxLen; omega) hlen hsz (L.length + M.length) rfl ?_
  intro A' c' w' hown' hgr _
  refine hK _ _ (h A' c' w' ?_ (gr_of_grown hg hown hgr hsz) hgr)
  unfold CO
  rw [List.length_append]
  unfold ccells at hown' ⊢
  rw [List.flatMap_append]
  exact hown'
theorem pv_cells {w : World} {A : Option Addr} {n c : Nat} {L : List PR} (h : PV w (.slice A n c) L) {i : Nat} (hi : i < L.length) : ∃ b off, A = some ⟨b, off, none⟩ ∧ w.cell? ⟨b, off + i * 2, none⟩ = some (.string L[i].key) ∧ w.cell? ⟨b, off + i * 2 + 1, none⟩ = some (.string L[i].val) := by
  obtain ⟨A', c', hv, _, _, hc⟩ := h
  obtain ⟨b, off, ha, q⟩ := hc i hi
  injection hv with e1
  exact ⟨b, off, e1.trans ha, q.1, q.2⟩
/-- A store's value. -/
def stval (vF vM vT : Value) (g m : Nat) : Value := .agg #[vF, vM, vT, .int .i64 (g : Int), .int .i64 (m : Int)]
/-- The changes of a table's file. -/
noncomputable def tabC (L : List F) (nm : ByteArray) : List CR := ((inTab L nm).getD []).map fromPR
noncomputable def tabsC (L : List F) (T : List ByteArray) : List CR := T.flatMap (tabC L)
theorem tabsC_succ (L : List F) {T : List ByteArray} {j : Nat} (h : j < T.length) : tabsC L (T.take (j + 1)) = tabsC L (T.take j) ++ tabC L T[j] := by
  unfold tabsC
  rw [List.take_succ_eq_append_getElem h, List.flatMap_append]
  simp
theorem tabC_len (L : List F) (nm : ByteArray) : (tabC L nm).length ≤ 1024 := by
  unfold tabC inTab
  rw [List.length_map]
  split
  · cases h : allR (bytesF L nm).1.data.toList with
    | none => exact Nat.zero_le _
    | some M => exact (allR_back h).1.1
  · exact Nat.zero_le _
theorem tabsC_len (L : List F) (T : List ByteArray) : (tabsC L T).length ≤ T.length * 1024 := by
  induction T with
  | nil => exact Nat.zero_le _
  | cons t T ih =>
    have := tabC_len L t
    unfold tabsC at ih ⊢
    rw [List.flatMap_cons, List.length_append, List.length_cons]
    omega
set_option maxRecDepth 100000 in
set_option maxHeartbeats 2000000 in
theorem tablesOf_any (vF vM vT : Value) (g m : Nat) (L : List F) (T : List ByteArray) (w : World) (hv : FV w vF L) (hT : SV w vT T) (hf : Fit L) (hH : Halves w) (hlen : T.length ≤ 100000) :
    Calls Tryz.prog 62 #[stval vF vM vT g m] w fun e w' => ∃ u, e = .returned u ∧ CO w' w.heap.size u (tabsC L T) ∧ Gr w w' := by
  have H1 := Lib.hid (fun nm w1 (q : Gr w w1) => inTable_any vF L nm w1 (hv.gr q) hf (hH.gr q))
  obtain ⟨A, c, rfl, l1, ⟨l2, _⟩, l3⟩ := hT
  have hc63 : c ≤ 9223372036854775807 := l2
  have HP := Lib.hid l3
  obtain ⟨n, hn⟩ : ∃ n, n = T.length := ⟨_, rfl⟩
  have HN := Lib.hid hn
  rw [← hn] at l1 hlen ⊢
  have HG0 := Lib.hid (gr_box w (.cells #[vF, vM, .slice A n c, .int .i64 (g : Int), .int .i64 (m : Int)] 30))
  obtain ⟨AF, cF, hvf⟩ : ∃ A c, vF = .slice A L.length c := by
    obtain ⟨A, c, h, _⟩ := hv
    exact ⟨A, c, h⟩
  subst hvf
  have HBX : Hid ((w.alloc (.cells #[.slice AF L.length cF, vM, .slice A n c, .int .i64 (g : Int), .int .i64 (m : Int)] 30)).heap[w.heap.size]? = some (.cells #[.slice AF L.length cF, vM, .slice A n c, .int .i64 (g : Int), .int .i64 (m : Int)] 30 (0, 0))) := Lib.hid (heap_alloc_new w _)
  clear l2 l3 hn hv hf hH
  unfold stval
  go_enter Tryz.func62, Tryz.ntmps62
  go_wp2_with fail
  obtain ⟨W, hW⟩ : ∃ W, W = w.alloc (.cells #[.slice AF L.length cF, vM, .slice A n c, .int .i64 (g : Int), .int .i64 (m : Int)] 30) := ⟨_, rfl⟩
  rw [← hW] at HG0 HBX ⊢
  clear hW
  go_loopg [3, 13] (n + 1) (fun kx s3 s13 wr => ∃ j : Nat, s13 = .int .i64 (j : Int) ∧ j ≤ n ∧ n - j ≤ kx ∧ Hid (CO wr w.heap.size s3 (tabsC L (T.take j))) ∧ Hid (Gr w wr) ∧ Hid (wr.heap[w.heap.size]? = some (.cells #[.slice AF L.length cF, vM, .slice A n c, .int .i64 (g : Int), .int .i64 (m : Int)] 30 (0, 0))))
  case atStart => exact ⟨0, rfl, Nat.zero_le _, by omega, Lib.hid (CO.nil _ _), HG0, HBX⟩
  case round =>
    clear HG0 HBX
    obtain ⟨j, rfl, hj, hkx, HO, HG, HBX⟩ := hrel
    by_cases hlt : j < n
    · have hjT : j < T.length := by rw [← HN.out]; exact hlt
      obtain ⟨b, off, rfl, q0⟩ := HP.out j hjT
      have c0 := HG.out.cell q0
      have cb := obj_cell HBX.out (i := 0) rfl
      have t0 : (0 : Int) ≤ (j : Int) := by omega
      have t1 : (j : Int) < (n : Int) := by omega
      obtain ⟨nm, hnm⟩ : ∃ x, x = T[j] := ⟨_, rfl⟩
      have HS := Lib.hid (tabsC_succ L hjT)
      rw [← hnm] at c0 HS
      have H2 := Lib.hid (H1.out nm _ HG.out)
      have hA := tabC_len L nm
      have hB := tabsC_len L (T.take j)
      rw [List.length_take, ← HN.out, Nat.min_eq_left hj] at hB
      have hB2 : (tabsC L (T.take j)).length ≤ 100000 * 1024 := by omega
      clear q0 hnm hB
      go_wp2_with fail
      refine H2.out.mono ?_
      rintro e w1 ⟨u, rfl, hpo, hsm, g1⟩
      have HG1 := Lib.hid (HG.out.trans g1)
      have HO1 := Lib.hid (HO.out.gr g1)
      have HBX1 := Lib.hid (gr_obj g1 HBX.out)
      have hpo' := hpo.le HG.out.size
      obtain ⟨M, hM⟩ : ∃ M, M = (inTab L nm).getD [] := ⟨_, rfl⟩
      obtain ⟨ok, hok⟩ : ∃ b, b = (inTab L nm).isSome := ⟨_, rfl⟩
      have HTC : Hid (tabC L nm = M.map fromPR) := Lib.hid (by unfold tabC; rw [hM])
      rw [HTC.out, List.length_map] at hA
      rw [← hM] at hpo' hsm
      rw [← hok]
      have HSM := Lib.hid hsm
      obtain ⟨AM, cM, rfl, m1, hm63⟩ := own_form hpo'
      obtain ⟨nM, hnM⟩ : ∃ n, n = M.length := ⟨_, rfl⟩
      have HNM := Lib.hid hnM
      rw [← hnM] at m1 hA hpo' ⊢
      have HPM := Lib.hid hpo'
      clear hM hok hnM g1 c0 cb HO hpo hpo' hsm
      go_wp2_with fail
      go_loopg [3, 26] (nM + 1) (fun kx s3 s26 wr => ∃ i : Nat, s26 = .int .i64 (i : Int) ∧ i ≤ nM ∧ nM - i ≤ kx ∧ Hid (CO wr w.heap.size s3 (tabsC L (T.take j) ++ (M.take i).map fromPR)) ∧ Hid (PO wr w.heap.size (.slice AM nM cM) M) ∧ Hid (Gr w wr) ∧ Hid (wr.heap[w.heap.size]? = some (.cells #[.slice AF L.length cF, vM, .slice (some ⟨b, off, none⟩) n c, .int .i64 (g : Int), .int .i64 (m : Int)] 30 (0, 0))))
      case atStart => exact ⟨0, rfl, Nat.zero_le _, by omega, Lib.hid (by rw [List.take_zero, List.map_nil, List.append_nil]; exact HO1.out), HPM, HG1, HBX1⟩
      case round =>
        clear HPM HO1 HG1 HBX1 HBX
        obtain ⟨i, rfl, hi, hkx2, HO2, HPM, HGi, HBX⟩ := hrel
        obtain ⟨A3, c3, rfl, -, -⟩ := own_form HO2.out
        obtain ⟨q, hq⟩ : ∃ q, q = (tabsC L (T.take j) ++ (M.take i).map fromPR).length := ⟨_, rfl⟩
        have HQ := Lib.hid hq
        have hql : q ≤ 100000 * 1024 + 1024 := by
          rw [hq, List.length_append, List.length_map, List.length_take]
          omega
        rw [← hq] at HO2 ⊢
        clear hq
        by_cases hil : i < nM
        · have hiM : i < M.length := by rw [← HNM.out]; exact hil
          obtain ⟨bb, offb, rfl, p0, p1⟩ := pv_cells HPM.out.pv hiM
          have hvs := (HSM.out _ (List.getElem_mem hiM)).2
          have HS2 : Hid ((M.take (i + 1)).map fromPR = (M.take i).map fromPR ++ [fromPR M[i]]) := Lib.hid (by rw [List.take_succ_eq_append_getElem hiM, List.map_append]; rfl)
          obtain ⟨p, hp⟩ : ∃ p, p = M[i] := ⟨_, rfl⟩
          rw [← hp] at p0 p1 hvs HS2
          have H3 := Lib.hid (fun w => fromTable_any p (by omega) w)
          obtain ⟨x, y⟩ := p
          have d0 : wr.cell? ⟨bb, offb + i * 2, none⟩ = some (.string x) := p0
          have d1 : wr.cell? ⟨bb, offb + i * 2 + 1, none⟩ = some (.string y) := p1
          have u0 : (0 : Int) ≤ (i : Int) := by omega
          have u1 : (i : Int) < (nM : Int) := by omega
          clear p0 p1 hvs hp
          go_wp2_with fail
          refine (H3.out _).mono ?_
          rintro e w3 ⟨rfl, g3⟩
          obtain ⟨z, hz⟩ : ∃ z, z = fromPR ⟨x, y⟩ := ⟨_, rfl⟩
          rw [← hz] at HS2 ⊢
          obtain ⟨zk, zv, zg⟩ := z
          unfold cval
          have HG3 := Lib.hid (HGi.out.trans ((gr_box _ _).trans g3))
          have HO3 := Lib.hid (HO2.out.gr ((gr_box _ _).trans g3))
          have HPM3 := Lib.hid (HPM.out.gr ((gr_box _ _).trans g3))
          have HBX3 := Lib.hid (gr_obj ((gr_box _ _).trans g3) HBX.out)
          clear hz g3 d0 d1 HO2 HPM
          go_wp2_with (at_builtin; refine wpList_push_ck (w0 := w) rfl (.tmp 30) (.tmp 33) rfl (.slice A3 q c3) (.slice (some ⟨w3.heap.size, 0, none⟩) 1 1) (tabsC L (T.take j) ++ (M.take i).map fromPR) [⟨zk, zv, zg⟩] q 1 HQ.out rfl rfl (HO3.out.gr (gr_box _ _)) rfl (cv_one _ _ _ _ _ rfl) (by omega) (HG3.out.alloc _) ?_)
          intro A5 c5 w5 hp5 g5 k5
          have HP5 : Hid (CO w5 w.heap.size (.slice A5 (q + 1) c5) (tabsC L (T.take j) ++ (M.take (i + 1)).map fromPR)) := Lib.hid (by rw [HS2.out, List.map_take]; exact hp5)
          have HPM5 : Hid (PO w5 w.heap.size (.slice (some ⟨bb, offb, none⟩) nM cM) M) := Lib.hid (own_past (HPM3.out.gr (gr_box _ _)) (HO3.out.gr (gr_box _ _)) (by decide) k5)
          have HBX5 := Lib.hid (kp_obj k5 (gr_obj (gr_box _ _) HBX3.out) (own_ne_obj HO3.out HBX3.out (by decide)))
          have HG5 := Lib.hid g5
          clear hp5 g5 k5
          go_wp2
          go_roundg (nM - (i + 1))
          case measure => omega
          case rel => exact ⟨i + 1, by go_num, by omega, Nat.le_refl _, HP5, HPM5, HG5, HBX5⟩
        · have hie : i = M.length := by rw [← HNM.out]; omega
          have HO4 : Hid (CO wr w.heap.size (.slice A3 q c3) (tabsC L (T.take (j + 1)))) := Lib.hid (by
            have h := HO2.out
            rw [hie, List.take_length] at h
            rw [HS.out, HTC.out]
            exact h)
          clear hie
          go_wp2_with fail
          go_roundg (n - (j + 1))
          case measure => omega
          case rel => exact ⟨j + 1, by go_num, by omega, Nat.le_refl _, HO4, HGi, HBX⟩
    · have hjn : j = T.length := by rw [← HN.out]; omega
      have hO := HO.out
      rw [hjn, List.take_length] at hO
      have HO4 := Lib.hid hO
      clear hjn hO HO
      go_wp2_with fail
      go_ret
      exact ⟨_, rfl, HO4.out, HG.out⟩
end Go.Proofs.YtlnhbndghnkfmaaGreatDoor
