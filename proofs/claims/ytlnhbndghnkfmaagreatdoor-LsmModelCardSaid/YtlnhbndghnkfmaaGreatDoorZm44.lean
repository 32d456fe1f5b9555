/- Walks: a store is made anew of what stands on its disk: open, the program's. Walks: a store is made anew of what stands on its disk: open, the program's: the walk. Walks: Flush, Merge, Open, whole: the program's. -/
import Derived.Test.YtlnhbndghnkfmaaGreatDoorZm43
namespace Go.Proofs.YtlnhbndghnkfmaaGreatDoor
open Go.RowKit

/-- The changes of all batches, one behind the other. -/
def batchesR : List ByteArray → Option (List CR)
  | [] => some []
  | r :: rs => match changesR r.data.toList with
    | none => none
    | some l => (batchesR rs).map (l ++ ·)
theorem batchesR_cons (r : ByteArray) (rs : List ByteArray) : batchesR (r :: rs) = (changesR r.data.toList).bind fun l => (batchesR rs).map (l ++ ·) := by
  show (match changesR r.data.toList with
    | none => none
    | some l => (batchesR rs).map (l ++ ·)) = _
  cases changesR r.data.toList <;> rfl
theorem batchesR_append : ∀ (a b : List ByteArray), batchesR (a ++ b) = (batchesR a).bind fun x => (batchesR b).map (x ++ ·)
  | [], b => by
    show batchesR b = (batchesR b).map ([] ++ ·)
    cases batchesR b <;> simp
  | r :: rs, b => by
    rw [List.cons_append, batchesR_cons, batchesR_cons, batchesR_append rs b]
    cases changesR r.data.toList with
    | none => rfl
    | some l =>
      cases batchesR rs with
      | none => rfl
      | some x =>
        cases batchesR b with
        | none => rfl
        | some z =>
          show some (l ++ (x ++ z)) = some ((l ++ x) ++ z)
          rw [List.append_assoc]
theorem batchesR_succ {R : List ByteArray} {j : Nat} (h : j < R.length) {x : List CR} (hx : batchesR (R.take j) = some x) : batchesR (R.take (j + 1)) = (changesR R[j].data.toList).map (x ++ ·) := by
  rw [List.take_succ_eq_append_getElem h, batchesR_append, hx]
  show (batchesR [R[j]]).map (x ++ ·) = _
  unfold batchesR
  rcases changesR R[j].data.toList with _ | l
  · rfl
  · show some (x ++ (l ++ [])) = some (x ++ l)
    rw [List.append_nil]
theorem batchesR_none {R : List ByteArray} {j : Nat} (h : j < R.length) {x : List CR} (hx : batchesR (R.take j) = some x) (hn : changesR R[j].data.toList = none) : batchesR R = none := by
  have h1 := batchesR_succ h hx
  rw [hn] at h1
  rw [← List.take_append_drop (j + 1) R, batchesR_append, h1]
  rfl
theorem changesF_ok {L : List ByteArray} {x : List CR} (h : changesF L = some x) : batchE x = 0 := by
  unfold changesF at h
  split at h
  · cases h
  · split at h
    · split at h
      · rename_i hb
        injection h with h
        rw [← h]
        exact hb
      · cases h
    · cases h
theorem changesR_ok {l : List UInt8} {x : List CR} (h : changesR l = some x) : batchE x = 0 := by
  unfold changesR at h
  split at h
  · cases h
  · exact changesF_ok h
theorem batchesR_len : ∀ {R : List ByteArray} {x : List CR}, batchesR R = some x → x.length ≤ R.length * 64
  | [], x, h => by
    injection h with h
    rw [← h]
    exact Nat.zero_le _
  | r :: rs, x, h => by
    unfold batchesR at h
    rcases hc : changesR r.data.toList with _ | l
    · rw [hc] at h; cases h
    · rw [hc] at h
      simp only at h
      rcases hb : batchesR rs with _ | y
      · rw [hb] at h; cases h
      · rw [hb] at h
        injection h with h
        have h1 := batchesR_len hb
        have h2 := (batchE_zero (changesR_ok hc)).2.1
        rw [← h, List.length_append, List.length_cons]
        omega
/-- Open, behind the manifest: in plain words. -/
noncomputable def lopenT (L1 : List F) (D : List O) (y : List ByteArray × Nat) (m : Nat) : St × List O × Nat :=
  if (run (keptF L1 y.1 y.2) (openW (keptF L1 y.1 y.2) (logW y.2)).2).2.2 ≠ 0 then (st0, [], (run (keptF L1 y.1 y.2) (openW (keptF L1 y.1 y.2) (logW y.2)).2).2.2)
  else match batchesR ((openW (keptF L1 y.1 y.2) (logW y.2)).1.map bs) with
    | none => (st0, [], 70)
    | some l => (⟨(run (keptF L1 y.1 y.2) (openW (keptF L1 y.1 y.2) (logW y.2)).2).1, puts [] l, y.1, y.2, m⟩, (D ++ strayO L1 y.1 y.2) ++ (openW (keptF L1 y.1 y.2) (logW y.2)).2, 0)
noncomputable def lopenR (L : List F) : St × List O × Nat :=
  if (run L (openW L mP).2).2.2 ≠ 0 then (st0, [], (run L (openW L mP).2).2.2)
  else match replayT ((openW L mP).1.map bs) ([], 0) with
    | none => (st0, [], 70)
    | some y => if soundB (run L (openW L mP).2).1 y.1 = false then (st0, [], 70) else lopenT (run L (openW L mP).2).1 (openW L mP).2 y ((openW L mP).1.map bs).length
/-- Numbers of a disk that a machine can hold. -/
structure OpenFit (L : List F) : Prop where
  fit : Fit L
  len : L.length ≤ 100000000000
  sm1 : ∀ f ∈ segL L mP, f.size ≤ 1048576
  p1 : (openW L mP).2.length ≤ 100000000000
  r1 : (openW L mP).1.length ≤ 1000000000000
  sm2 : ∀ y : List ByteArray × Nat, ∀ f ∈ segL (keptF (run L (openW L mP).2).1 y.1 y.2) (logW y.2), f.size ≤ 1048576
  p2 : ∀ y : List ByteArray × Nat, (openW (keptF (run L (openW L mP).2).1 y.1 y.2) (logW y.2)).2.length ≤ 100000000000
  r2 : ∀ y : List ByteArray × Nat, (openW (keptF (run L (openW L mP).2).1 y.1 y.2) (logW y.2)).1.length ≤ 50000000000
theorem wpList_push_cb {W : World} {ops : Array Oper} {rest : List Oper} {o : Oper} {a : Act} {Q : Exit → Act → World → Prop} (hgd : o.guard = none) (s x : Operand)
    (ho : o.op = .call { callee := .builtin .append, args := #[s, x], argTypes := #[27, 27] })
    (B : Nat) (v vx : Value) (L M : List CR) (n m : Nat) (hn : n = L.length) (hm : m = M.length) (hs : a.eval s = v) (hown : CO W B v L) (hx : a.eval x = vx) (hxv : CV W vx M) (hlen : (n + m) * 40 ≤ 140737488355328) (hB : B ≤ W.heap.size)
    (h : ∀ A' c' w', CO w' B (.slice A' (n + m) c') (L ++ M) → Kp v.ownBlock W w' → wpList Tryz.prog ops Q rest (a.put o.dst (.slice A' (n + m) c')) w') :
    wpList Tryz.prog ops Q (o :: rest) a W := by
  subst hn hm
  obtain ⟨i0, hi, hz0, hz1, hz2⟩ := info_parts infoChange
  refine wpList_append_sl _ hgd s x 27 ho B 70 i0 _ 3 40 Tryz.underlying27 hi hz0 hz1 hz2 rfl (by decide) v L.length (ccells L) hs hown vx M.length (ccells M) hx
    hxv.sl (ccells_one M) (by unfold maxLen; omega) hlen hB (L.length + M.length) rfl ?_
  intro A' c' w' hown' hgr _
  refine h A' c' w' ?_ hgr
  unfold CO
  rw [List.length_append]
  unfold ccells at hown' ⊢
  rw [List.flatMap_append]
  exact hown'
/-- Amid the batches. -/
structure OpI (w : World) (B bd : Nat) (vF vT vD vR : Value) (L : List F) (T : List ByteArray) (g m : Nat) (D : List O) (R : List ByteArray) (vM : Value) (M : List CR) (wr : World) : Prop where
  row : DRow wr B bd vF vM vT vD L M T g m D
  recs : SO wr B vR R
  below : Below B w wr
theorem OpI.gr {w wr w' : World} {B bd : Nat} {vF vT vD vR vM : Value} {L : List F} {T : List ByteArray} {g m : Nat} {D : List O} {R : List ByteArray} {M : List CR} (h : OpI w B bd vF vT vD vR L T g m D R vM M wr) (q : Gr wr w') (hB : B ≤ w.heap.size) : OpI w B bd vF vT vD vR L T g m D R vM M w' :=
  ⟨h.row.gr q, h.recs.gr q, below_trans h.below (below_le q (Nat.le_trans hB h.below.size)) hB⟩
theorem OpI.more {w wr w7 : World} {B bd : Nat} {vF vT vD vR vM v' : Value} {L : List F} {T : List ByteArray} {g m : Nat} {D : List O} {R : List ByteArray} {M M' : List CR} (h : OpI w B bd vF vT vD vR L T g m D R vM M wr) (hB : B ≤ w.heap.size)
    (hown : CO w7 B v' M') (hk : Kp vM.ownBlock wr w7) : OpI w B bd vF vT vD vR L T g m D R v' M' (w7.setCell ⟨bd, 1, none⟩ v') := by
  have od := kp_obj hk h.row.obj (own_ne_obj h.row.mem h.row.obj (by decide))
  have qF := own_past h.row.files h.row.mem (by decide) hk
  have qT := own_past h.row.tabs h.row.mem (by decide) hk
  have qD := own_past h.row.ops h.row.mem (by decide) hk
  have qR := own_past h.recs h.row.mem (by decide) hk
  have k1 : KS (fun k => B ≤ k) wr w7 := KS.of_kp (S := fun k => B ≤ k) hk (fun b hb => (own_lt h.row.mem hb).2)
  exact ⟨⟨set_obj od _, h.row.base, own_set_obj qF od (by decide) _, own_set_obj hown od (by decide) _, own_set_obj qT od (by decide) _, own_set_obj qD od (by decide) _⟩, own_set_obj qR od (by decide) _,
    (k1.below h.below (Nat.le_trans hB h.below.size) (fun _ h => h)).setCell (p := ⟨bd, 1, none⟩) h.row.base _⟩
theorem bs_small {R : List (List UInt8)} {r : ByteArray} (hr : r ∈ R.map bs) (h : ∀ x ∈ R, x.length ≤ 65536) : r.size ≤ maxLen := by
  obtain ⟨x, hx, rfl⟩ := List.mem_map.1 hr
  rw [bs_size]
  exact Nat.le_trans (h x hx) (by decide)
end Go.Proofs.YtlnhbndghnkfmaaGreatDoor
namespace Go.Proofs.YtlnhbndghnkfmaaGreatDoor
open Go.RowKit

theorem scanF_small : ∀ (n : Nat) (l : List UInt8), ∀ b ∈ scanF n l, b.length ≤ 65536
  | 0, _, b, h => by cases h
  | n + 1, l, b, h => by
    unfold scanF at h
    split at h
    · cases h
    · rename_i c hc
      rcases List.mem_cons.1 h with rfl | h
      · exact (first_len hc).2
      · exact scanF_small n _ b h
theorem openS_small {p : ByteArray} {m : Nat} : ∀ (r : List F) (i : Nat), ∀ b ∈ (openS p m i r).1, b.length ≤ 65536
  | [], i, b, h => by cases h
  | f :: r, i, b, h => by
    by_cases ht : tornF f
    · rw [openS_torn ht] at h
      exact scanF_small _ _ b h
    · rw [openS_whole ht] at h
      rcases List.mem_append.1 h with h | h
      · exact scanF_small _ _ b h
      · exact openS_small r _ b h
theorem openW_small (L : List F) (p : ByteArray) : ∀ r ∈ (openW L p).1.map bs, r.size ≤ maxLen := by
  intro r hr
  exact bs_small hr (openS_small _ _)
theorem openW_len (L : List F) (p : ByteArray) : ((openW L p).1.map bs).length = (openW L p).1.length := List.length_map ..
theorem strayO_len (L : List F) (T : List ByteArray) (g : Nat) : (strayO L T g).length ≤ L.length := by
  unfold strayO
  rw [List.length_map]
  refine Nat.le_trans (List.length_filter_le _ _) ?_
  rw [List.length_reverse]
  exact Nat.le_refl _
theorem keptF_len (L : List F) (T : List ByteArray) (g : Nat) : (keptF L T g).length ≤ L.length := List.length_filter_le _ _
theorem keptF_fit {L : List F} (h : Fit L) (T : List ByteArray) (g : Nat) : Fit (keptF L T g) := fun f hf => h f (List.mem_filter.1 hf).1
theorem Halves.far {w w' : World} {B : Nat} (h : Halves w) (b : Below B w w') (hB : 1 < B) : Halves w' := fun k hk => (b.cell (p := ⟨1, k, none⟩) hB).trans (h k hk)
set_option maxRecDepth 100000 in
set_option maxHeartbeats 4000000 in
theorem open_m (B bd : Nat) (vF vM vT : Value) (L : List F) (w : World) (hD : DRow w B bd vF vM vT (.slice none 0 0) L [] [] 0 0 []) (hO : OpenFit L) (hB : B ≤ w.heap.size) (hH : Halves w) (hHB : 1 < B) :
    Calls Tryz.prog 37 #[.pointer (some ⟨bd, 0, none⟩)] w fun e w' => RetMeth B bd (lopenR L) w e w' := by
  obtain ⟨AT0, nT0, cT0, rfl⟩ : ∃ A n c, vT = .slice A n c := by
    obtain ⟨A, c, h, -, -⟩ := own_form hD.tabs
    exact ⟨A, _, c, h⟩
  obtain ⟨r, hr⟩ : ∃ r, r = lopenR L := ⟨_, rfl⟩
  rw [← hr]
  unfold lopenR at hr
  have HR := Lib.hid hr
  have HO := Lib.hid hO
  have HB := Lib.hid hB
  have HH := Lib.hid hH
  have HHB := Lib.hid hHB
  have HBD := Lib.hid hD.base
  have HTL : Hid (∀ b, (Value.slice AT0 nT0 cT0).ownBlock = some b → b < w.heap.size) := Lib.hid (fun b hb => (own_lt hD.tabs hb).1)
  have HM1 := Lib.hid (mend_m B bd vF vM (.slice AT0 nT0 cT0) (.slice none 0 0) L [] [] 0 0 [] mP w hD mP_ok hO.fit hO.sm1 (by have := hO.len; omega) (by have := hO.p1; simp only [List.length_nil]; omega) hB hH)
  obtain ⟨L1, hL1⟩ : ∃ x, x = (run L (openW L mP).2).1 := ⟨_, rfl⟩
  obtain ⟨e1, he1⟩ : ∃ x, x = (run L (openW L mP).2).2.2 := ⟨_, rfl⟩
  obtain ⟨P1, hP1⟩ : ∃ x, x = (openW L mP).2 := ⟨_, rfl⟩
  obtain ⟨R1, hR1⟩ : ∃ x, x = (openW L mP).1.map bs := ⟨_, rfl⟩
  have HF1 : Hid (Fit L1) := Lib.hid (by rw [hL1]; exact run_fit hO.fit)
  have HL1 : Hid (L1.length ≤ 100000000000) := Lib.hid (by rw [hL1]; have := run_len (L := L) (ops := (openW L mP).2); have := hO.len; omega)
  have HP1 : Hid (P1.length ≤ 100000000000) := Lib.hid (by rw [hP1]; exact hO.p1)
  have HR1 : Hid (R1.length ≤ 1000000000000 ∧ ∀ r ∈ R1, r.size ≤ maxLen) := Lib.hid (by rw [hR1]; exact ⟨by rw [openW_len]; exact hO.r1, openW_small L mP⟩)
  have HSM2 := Lib.hid hO.sm2
  have HPL2 := Lib.hid hO.p2
  have HRL2 := Lib.hid hO.r2
  unfold RetMend mP at HM1
  rw [← hL1] at HSM2 HPL2 HRL2
  rw [← hP1] at hL1 he1
  rw [← hR1, ← hP1, ← hL1, ← he1] at HR
  unfold mP at hR1 hP1
  rw [← hR1, ← hP1] at HM1
  rw [← hL1, ← he1] at HM1
  rw [List.nil_append] at HM1
  clear hr hO hB hH hHB hD hL1 he1 hP1 hR1 HO
  go_enter Tryz.func37, Tryz.ntmps37
  go_wp2_with fail
  refine HM1.out.mono ?_
  rintro e w1 ⟨vR1, rfl, hR1, hd1, ks1⟩
  have HB1 := Lib.hid (ks1.below (Below.refl B w) HB.out (fun i hi => by
    rcases hi with rfl | hi
    · exact HBD.out
    · simp [Value.ownBlock] at hi))
  obtain ⟨AR1, nR1, cR1, rfl⟩ : ∃ A n c, vR1 = .slice A n c := by
    obtain ⟨A, c, h, -, -⟩ := own_form hR1
    exact ⟨A, _, c, h⟩
  have HVR1 := Lib.hid hR1
  clear ks1 HM1 hR1
  by_cases he : e1 = 0
  case neg =>
    have t0 : ((e1 : Int) == 0) = false := by rw [beq_eq_false_iff_ne]; omega
    have t1 : ¬ ((e1 : Int) = 0) := by omega
    have e := HR.out
    rw [if_pos he] at e
    have HE := Lib.hid e
    clear e hd1
    go_wp2_with fail
    go_ret
    rw [HE.out]
    exact meth_no he HB1.out
  have e := HR.out
  rw [if_neg (by omega)] at e
  have HE := Lib.hid e
  obtain ⟨vF1, vD1, hrow1, -⟩ := hd1 he
  subst he
  have HD1 := Lib.hid hrow1
  have HZ1 : Hid (B ≤ w1.heap.size) := Lib.hid (Nat.le_trans HB.out HB1.out.size)
  have HRP := Lib.hid (replay_m B w.heap.size bd vF1 vM (.slice AT0 nT0 cT0) vD1 (.slice AR1 nR1 cR1) L1 [] 0 0 P1 R1 w1 hrow1 HVR1.out (fun b hb e => Nat.lt_irrefl _ (Nat.lt_of_lt_of_le (HTL.out b hb) (own_lt HVR1.out e).2)) HR1.out.1 (by decide) HR1.out.2 HZ1.out)
  clear e hd1 hrow1
  go_wp2_with fail
  refine HRP.out.mono ?_
  rintro e w2 ⟨o, rfl, ho, b2, hd2⟩
  have HB2 := Lib.hid (below_trans HB1.out b2 HB.out)
  clear b2 HRP
  rcases hrp : replayT R1 ([], 0) with _ | y
  · rw [hrp] at ho
    subst ho
    have e := HE.out
    rw [hrp] at e
    have HE2 := Lib.hid e
    clear e hd2 hrp
    go_wp2_with fail
    go_ret
    rw [HE2.out]
    exact meth_no (by decide) HB2.out
  rw [hrp] at ho
  subst ho
  have e := HE.out
  rw [hrp] at e
  have HE2 := Lib.hid e
  have HYL := Lib.hid (replayT_len hrp)
  obtain ⟨vT2, hrow2⟩ := hd2 y hrp
  obtain ⟨T, g⟩ := y
  dsimp only at hrow2 HE2 HYL
  have HD2 := Lib.hid hrow2
  have HS2 := Lib.hid (sound_m B bd vF1 vM vT2 vD1 L1 [] T g R1.length P1 w2 hrow2 HF1.out (HH.out.far HB2.out HHB.out))
  clear e hd2 hrp hrow2
  obtain ⟨sd, hsd⟩ : ∃ b, b = soundB L1 T := ⟨_, rfl⟩
  rw [← hsd] at HS2 HE2
  clear hsd
  go_wp2_with fail
  refine HS2.out.mono ?_
  rintro e w3 ⟨rfl, g3⟩
  have HB3 := Lib.hid (below_trans HB2.out (below_le g3 (Nat.le_trans HB.out HB2.out.size)) HB.out)
  have HD3 := Lib.hid (HD2.out.gr g3)
  clear g3 HS2
  rcases sd with _ | _
  · have e := HE2.out
    rw [if_pos rfl] at e
    have HE3 := Lib.hid e
    clear e
    go_wp2_with fail
    go_ret
    rw [HE3.out]
    exact meth_no (by decide) HB3.out
  have e := HE2.out
  rw [if_neg (by decide)] at e
  have HE3 := Lib.hid e
  have HS3 := Lib.hid (strays_m B bd vF1 vM vT2 vD1 L1 [] T g R1.length P1 w3 HD3.out HF1.out (by have := HYL.out.2; have := HR1.out.1; omega) (by have := HL1.out; have := HP1.out; omega) (Nat.le_trans HB.out HB3.out.size))
  clear e HE2
  go_wp2_with fail
  refine HS3.out.mono ?_
  rintro e w4 ⟨rfl, ⟨vF4, vD4, hrow4⟩, b4⟩
  have HB4 := Lib.hid (below_trans HB3.out b4 HB.out)
  have HD4 := Lib.hid hrow4
  have HLP := Lib.hid (logPrefix_any g (by have := HYL.out.2; have := HR1.out.1; omega) w4)
  have c3 := obj_cell hrow4.obj (i := 3) rfl
  clear b4 hrow4 HS3
  go_wp2_with fail
  refine HLP.out.mono ?_
  rintro e w5 ⟨rfl, g5⟩
  have HB5 := Lib.hid (below_trans HB4.out (below_le g5 (Nat.le_trans HB.out HB4.out.size)) HB.out)
  have HD5 := Lib.hid (HD4.out.gr g5)
  clear g5 c3 HLP
  obtain ⟨L2, hL2⟩ : ∃ x, x = keptF L1 T g := ⟨_, rfl⟩
  obtain ⟨D2, hD2⟩ : ∃ x, x = P1 ++ strayO L1 T g := ⟨_, rfl⟩
  have hf2 : Fit L2 := by rw [hL2]; exact keptF_fit HF1.out T g
  have hl2 : L2.length ≤ 100000000000 := by rw [hL2]; have := keptF_len L1 T g; have := HL1.out; omega
  have hd2l : D2.length ≤ 200000000000 := by rw [hD2, List.length_append]; have := strayO_len L1 T g; have := HL1.out; have := HP1.out; omega
  have hsm2 := HSM2.out (T, g)
  have hp2 := HPL2.out (T, g)
  have hr2 := HRL2.out (T, g)
  have e := HE3.out
  unfold lopenT at e
  dsimp only at hsm2 hp2 hr2 e
  rw [← hL2] at hsm2 hp2 hr2 e HD5
  rw [← hD2] at e HD5
  have HM2 := Lib.hid (mend_m B bd vF4 vM vT2 vD4 L2 [] T g R1.length D2 (logW g) w5 HD5.out (logW_prefix _) hf2 hsm2 (by omega) (by omega) (Nat.le_trans HB.out HB5.out.size) (HH.out.far HB5.out HHB.out))
  obtain ⟨L3, hL3⟩ : ∃ x, x = (run L2 (openW L2 (logW g)).2).1 := ⟨_, rfl⟩
  obtain ⟨e3, he3⟩ : ∃ x, x = (run L2 (openW L2 (logW g)).2).2.2 := ⟨_, rfl⟩
  obtain ⟨P3, hP3⟩ : ∃ x, x = (openW L2 (logW g)).2 := ⟨_, rfl⟩
  obtain ⟨R3, hR3⟩ : ∃ x, x = (openW L2 (logW g)).1.map bs := ⟨_, rfl⟩
  have HR3 : Hid (R3.length ≤ 50000000000 ∧ ∀ r ∈ R3, r.size ≤ maxLen) := Lib.hid (by rw [hR3]; exact ⟨by rw [openW_len]; exact hr2, openW_small L2 (logW g)⟩)
  unfold RetMend at HM2
  rw [← hP3] at hL3 he3 HM2
  rw [← hP3, ← hL3, ← he3, ← hR3] at e
  rw [← hR3, ← hL3, ← he3] at HM2
  have HE4 := Lib.hid e
  have HLG : Hid (∀ b, vD4.ownBlock = some b → B ≤ b) := Lib.hid (fun b hb => (own_lt HD5.out.ops hb).2)
  clear e hL2 hD2 hf2 hl2 hd2l hsm2 hp2 hr2 hL3 he3 hP3 hR3 HE3
  go_wp2_with fail
  refine HM2.out.mono ?_
  rintro e w6 ⟨vR3, rfl, hR3, hd6, ks6⟩
  have HB6 := Lib.hid (ks6.below HB5.out (Nat.le_trans HB.out HB5.out.size) (fun i hi => by
    rcases hi with rfl | hi
    · exact HBD.out
    · exact HLG.out i hi))
  obtain ⟨AR3, nR3, cR3, hvR3, hnR3⟩ : ∃ A n c, vR3 = .slice A n c ∧ n = R3.length := by
    obtain ⟨A, c, h, -, -⟩ := own_form hR3
    exact ⟨A, _, c, h, rfl⟩
  subst hvR3
  have HVR3 := Lib.hid hR3
  have HNR := Lib.hid hnR3
  have hB5le : B ≤ w5.heap.size := Nat.le_trans HB.out HB5.out.size
  clear ks6 HM2 hR3 hnR3
  by_cases he : e3 = 0
  case neg =>
    have t0 : ((e3 : Int) == 0) = false := by rw [beq_eq_false_iff_ne]; omega
    have t1 : ¬ ((e3 : Int) = 0) := by omega
    have e := HE4.out
    rw [if_pos he] at e
    have HE := Lib.hid e
    clear e hd6
    go_wp2_with fail
    go_ret
    rw [HE.out]
    exact meth_no he HB6.out
  have e := HE4.out
  rw [if_neg (by omega)] at e
  have HE5 := Lib.hid e
  obtain ⟨vF6, vD6, hrow6, -⟩ := hd6 he
  subst he
  have HI0 : Hid (OpI w B bd vF6 vT2 vD6 (.slice AR3 nR3 cR3) L3 T g R1.length (D2 ++ P3) R3 vM [] w6) := Lib.hid ⟨hrow6, own_le HVR3.out hB5le, HB6.out⟩
  have hnb : nR3 ≤ 50000000000 := by rw [HNR.out]; exact HR3.out.1
  clear e hd6 hrow6 hB5le
  go_wp2_with fail
  go_loopg [45] (nR3 + 1) (fun kx s45 wr => ∃ j : Nat, s45 = .int .i64 (j : Int) ∧ j ≤ nR3 ∧ nR3 - j ≤ kx ∧ Hid (∃ x vM', batchesR (R3.take j) = some x ∧ OpI w B bd vF6 vT2 vD6 (.slice AR3 nR3 cR3) L3 T g R1.length (D2 ++ P3) R3 vM' x wr))
  case atStart => exact ⟨0, rfl, Nat.zero_le _, by omega, Lib.hid ⟨[], vM, rfl, HI0.out⟩⟩
  case round =>
    obtain ⟨j, rfl, hj, hkx, HI⟩ := hrel
    obtain ⟨x, vM', hx, hi⟩ := HI.out
    have HX := Lib.hid hx
    have HXL := Lib.hid (batchesR_len hx)
    obtain ⟨AM, nM, kM, hvM, hnM⟩ : ∃ A n k, vM' = .slice A n k ∧ n = x.length := by
      obtain ⟨A, k, h, -, -⟩ := own_form hi.row.mem
      exact ⟨A, _, k, h, rfl⟩
    subst hvM
    have HNM := Lib.hid hnM
    have HII := Lib.hid hi
    have HZW : Hid (B ≤ wr.heap.size) := Lib.hid (Nat.le_trans HB.out hi.below.size)
    clear HI hx hnM
    by_cases hlt : j < nR3
    · have hjR : j < R3.length := by rw [← HNR.out]; exact hlt
      obtain ⟨A, c, e1, e2, -, e4⟩ := hi.recs.sv
      injection e1 with ea eb ec
      subst ea
      obtain ⟨b, off, rfl, q0⟩ := e4 j hjR
      have hms := HR3.out.2 _ (List.getElem_mem hjR)
      obtain ⟨rc, hrc⟩ : ∃ x, x = R3[j] := ⟨_, rfl⟩
      rw [← hrc] at q0 hms
      have HRJ : Hid (∃ h : j < R3.length, rc = R3[j]) := Lib.hid ⟨hjR, hrc⟩
      have HC := Lib.hid (changesOf_any rc hms wr)
      have u0 : (0 : Int) ≤ (j : Int) := by omega
      have u1 : (j : Int) < (nR3 : Int) := by omega
      clear e2 e4 eb ec hms hrc hi hjR
      go_wp2_with fail
      refine HC.out.mono ?_
      rintro e w7 ⟨vl, rfl, hl, g7⟩
      have HI7 := Lib.hid (HII.out.gr g7 HB.out)
      have HZ7 : Hid (B ≤ w7.heap.size) := Lib.hid (Nat.le_trans HZW.out g7.size)
      clear g7 HC q0
      rcases hch : changesR rc.data.toList with _ | l
      · rw [hch] at hl
        have HF : Hid (batchesR R3 = none) := Lib.hid (by obtain ⟨h, e⟩ := HRJ.out; exact batchesR_none h HX.out (by rw [← e]; exact hch))
        have e := HE5.out
        rw [HF.out] at e
        have HE := Lib.hid e
        simp only [Option.isSome_none]
        obtain ⟨Al, nl, kl, rfl⟩ : ∃ A n k, vl = .slice A n k := by
          obtain ⟨A, k, h, -, -⟩ := own_form hl
          exact ⟨A, _, k, h⟩
        clear hl hch e
        go_wp2_with fail
        go_ret
        rw [HE.out]
        exact meth_no (by decide) HI7.out.below
      · rw [hch] at hl
        have HF : Hid (batchesR (R3.take (j + 1)) = some (x ++ l)) := Lib.hid (by obtain ⟨h, e⟩ := HRJ.out; rw [batchesR_succ h HX.out, ← e, hch]; rfl)
        have HL64 := Lib.hid (batchE_zero (changesR_ok hch)).2.1
        simp only [Option.isSome_some]
        obtain ⟨Al, nl, kl, hvl, hnl⟩ : ∃ A n k, vl = .slice A n k ∧ n = l.length := by
          obtain ⟨A, k, h, -, -⟩ := own_form hl
          exact ⟨A, _, k, h, rfl⟩
        subst hvl
        have HNL := Lib.hid hnl
        have HCV : Hid (CV w7 (.slice Al nl kl) l) := Lib.hid hl.cv
        have hlen : (nM + nl) * 40 ≤ 140737488355328 := by
          have h1 := HXL.out
          rw [List.length_take] at h1
          have h2 := HNM.out
          have h3 := HL64.out
          have h4 := HR3.out.1
          omega
        have c1 := obj_cell HI7.out.row.obj (i := 1) rfl
        have HOB := Lib.hid (fun w8 (hk8 : Kp (Value.slice AM nM kM).ownBlock w7 w8) => kp_obj hk8 HI7.out.row.obj (own_ne_obj HI7.out.row.mem HI7.out.row.obj (by decide)))
        clear hl hch hnl
        go_wp2_with (at_builtin; refine wpList_push_cb rfl (.tmp 61) (.tmp 62) rfl B (.slice AM nM kM) (.slice Al nl kl) x l nM nl HNM.out HNL.out rfl HI7.out.row.mem rfl HCV.out hlen HZ7.out ?_; intro A8 k8 w8 hown8 hk8; have o8 := HOB.out w8 hk8; have c8 := obj_cell o8 (i := 1) rfl; have z8 := obj_free (i := 1) o8; have HO8 := Lib.hid hown8; have HK8 := Lib.hid hk8; clear hown8 hk8 o8)
        go_roundg (nR3 - (j + 1))
        case measure => omega
        case rel => exact ⟨j + 1, by go_num, by omega, Nat.le_refl _, Lib.hid ⟨_, _, HF.out, HI7.out.more HB.out HO8.out HK8.out⟩⟩
    · have HF : Hid (batchesR R3 = some x) := Lib.hid (by
        have h := HX.out
        rw [List.take_of_length_le (by rw [← HNR.out]; omega)] at h
        exact h)
      have hlen : x.length * 40 ≤ 140737488355328 := by
        have h1 := HXL.out
        rw [List.length_take] at h1
        have h4 := HR3.out.1
        omega
      have HS := Lib.hid (settled_any (.slice AM nM kM) x B wr hi.row.mem hlen)
      have e := HE5.out
      rw [HF.out] at e
      have HE := Lib.hid e
      have c1 := obj_cell hi.row.obj (i := 1) rfl
      have HOB := Lib.hid (fun w8 (hk8 : Kp (Value.slice AM nM kM).ownBlock wr w8) => kp_obj hk8 HII.out.row.obj (own_ne_obj HII.out.row.mem HII.out.row.obj (by decide)))
      clear e hlen hi
      go_wp2_with fail
      refine HS.out.mono ?_
      rintro e w8 ⟨u, rfl, hu, ku, -⟩
      have o8 := HOB.out w8 ku
      have c8 := obj_cell o8 (i := 1) rfl
      have z8 := obj_free (i := 1) o8
      have HI9 := Lib.hid (HII.out.more HB.out hu ku)
      obtain ⟨Au, nu, ku', rfl⟩ : ∃ A n k, u = .slice A n k := by
        obtain ⟨A, k, h, -, -⟩ := own_form hu
        exact ⟨A, _, k, h⟩
      clear hu ku o8 c1 HS
      go_wp2_with fail
      go_ret
      rw [HE.out]
      exact ⟨rfl, fun _ => ⟨_, _, _, _, HI9.out.row⟩, HI9.out.below⟩
end Go.Proofs.YtlnhbndghnkfmaaGreatDoor
namespace Go.Proofs.YtlnhbndghnkfmaaGreatDoor
open Go.RowKit

theorem halves_low {w : World} (h : Halves w) : 1 < w.heap.size := by
  have h0 := h 0 (by decide)
  unfold World.cell? at h0
  rcases Nat.lt_or_ge 1 w.heap.size with e | e
  · exact e
  · simp only [Array.getElem?_eq_none e] at h0
    cases h0
theorem lflush_any (v : Value) (s : St) (w : World) (hv : StV w v s) (hs : StOk s) (hfl : s.files.length ≤ 1000000000000) (hml : ∀ c ∈ s.mem, c.key.size ≤ 281474976710656 ∧ c.val.size ≤ 281474976710000) (hH : Halves w) :
    Calls Tryz.prog 48 #[v] w fun e w' => RetTop (topR (flushR s)) w e w' := by
  refine flush_top v s (flushR s) w hv hs ?_
  intro w1 B bd vF vM vT g1 _ hB2 hd
  exact flush_m B bd vF vM vT s w1 hd hs hfl hml hB2 (hH.gr g1)
theorem lmerge_any (v : Value) (s : St) (w : World) (hv : StV w v s) (hs : StOk s) (hfl : s.files.length ≤ 1000000000000) (htl : s.tabs.length ≤ 100000) (hH : Halves w) :
    Calls Tryz.prog 49 #[v] w fun e w' => RetTop (topR (mergeR s)) w e w' := by
  refine merge_top v s (mergeR s) w hv hs ?_
  intro w1 B bd vF vM vT g1 _ hB2 hd
  exact merge_m B bd vF vM vT s w1 hd hs hfl htl hB2 (hH.gr g1)
theorem lopen_any (v : Value) (L : List F) (w : World) (hv : FV w v L) (hO : OpenFit L) (hH : Halves w) :
    Calls Tryz.prog 12 #[.agg #[v]] w fun e w' => RetTop (topR (lopenR L)) w e w' := by
  refine open_top v L (lopenR L) w hv hO.fit (by have := hO.len; omega) ?_
  intro w1 B bd vF vM vT g1 hB hB2 hd
  exact open_m B bd vF vM vT L w1 hd hO hB2 (hH.gr g1) (Nat.lt_of_lt_of_le (halves_low hH) hB)
end Go.Proofs.YtlnhbndghnkfmaaGreatDoor
