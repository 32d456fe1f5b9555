/- Texts CaJ, joined. -/
import Derived.Test.YtjpiemgpbakfaaaG32
import Derived.Test.YtjpiemgpbakfaaaG18
/- The laws' awake; what received keeps. -/
namespace Go.Proofs.Ytjpiemgpbakfaaa
open Go.RowKit Go.Joins
set_option linter.unusedSimpArgs false
set_option linter.unusedVariables false

theorem iv_of {w : World} {B : Nat} {u : Nat → S3} {A : Option Addr} {n c : Nat} {s : IB} (h1 : LN w B u s.1) (h2 : XN w B (S3.v ⟨A, n, c⟩) s.2) : IV w u A n c s := by
  obtain ⟨A', c', hv⟩ := h2.form
  injection hv with e1 e2 e3
  exact ⟨h1.lv, h2.xv, e2⟩
theorem rv1 : recvR (nilL, []) t92 = ((nilL, [t92]), 0, 0) := by kernel_rfl
theorem rv2 : recvR (nilL, [t92]) t91 = ((l92, []), 2, 0) := by kernel_rfl
theorem fitT_of {t : TX} (h : t.ops = [op9]) (hq : t.seq = 1) : FitT t := ⟨by rw [hq]; decide, fitT h⟩
theorem fitI_nil : FitI (nilL, []) := ⟨fitC_nil, fun t ht => (by cases ht), Nat.zero_le _⟩
theorem iv_nil (w : World) : IV w Z3 none 0 0 (nilL, []) := ⟨LV.nil w, XV.nil w, rfl⟩

set_option maxRecDepth 100000 in
set_option maxHeartbeats 4000000 in
theorem awake13_any (w : World) : Calls Try.prog 6 #[] w fun e w' => e = .returned (.bool true) ∧ Gr w w' := by
  obtain ⟨W, hW, hg, ho⟩ := optov w
  have HG := Lib.hid hg
  have HO := Lib.hid ho
  have HA1 := Lib.hid (receive_any Z3 none 0 0 nilL [] t92 (some ⟨w.heap.size, 0, none⟩) 1 1 W (LV.nil _) (XV.nil _) rfl ho fitC_nil (fun t ht => by cases ht) (fitT_of rfl rfl) (Nat.zero_le _))
  rw [rv1] at HA1
  clear hg ho
  go_enter Try.func6, Try.ntmps6
  go_upto_region 2 with (fail)
  change Code.wp Try.prog _ _ _ (w.alloc (.cells #[.int .i64 1, .string ⟨#[97]⟩, .string ⟨#[]⟩, .int .i64 5] 50))
  rw [← hW]
  clear hW
  go_wp2_with fail
  refine HA1.out.mono ?_
  rintro e w2 ⟨u2, ⟨A2, n2, c2⟩, rfl, hl2, hx2, g2⟩
  have hiv := iv_of (s := (nilL, [t92])) hl2 hx2
  obtain ⟨W3, hW3, hg3, hs3, hI3⟩ := ibox_new w2 u2 ⟨A2, n2, c2⟩
  obtain ⟨z0, z1, z2, z3, z4, z5, z6, z7, z8⟩ := (zibox w2).zero
  obtain ⟨f0, f1, f2, f3, f4, f5, f6, f7, f8⟩ := (zibox w2).fz
  have HI3 := Lib.hid hI3
  have HG3 := Lib.hid ((HG.out.trans g2).trans hg3)
  have HB2 : Hid (w.heap.size ≤ w2.heap.size) := Lib.hid (HG.out.trans g2).size
  have HA2 := Lib.hid (receive_any u2 A2 n2 c2 nilL [t92] t91 (some ⟨w.heap.size, 0, none⟩) 1 1 W3 (hiv.gr hg3).lv (hiv.gr hg3).xv hiv.ln ((HO.out.gr g2).gr hg3) fitC_nil (fun t ht => by rw [List.mem_singleton] at ht; rw [ht]; exact fitT_of rfl rfl) (fitT_of rfl rfl) (by rw [hiv.ln]; decide))
  rw [rv2] at HA2
  clear hiv hl2 hx2 g2 hg3 hs3 hI3
  go_upto_region 3 with (fail)
  clear z0 z1 z2 z3 z4 z5 z6 z7 z8 f0 f1 f2 f3 f4 f5 f6 f7 f8
  change Code.wp Try.prog _ _ _ (w2.alloc (.cells (icells u2 ⟨A2, n2, c2⟩) 35))
  rw [← hW3]
  clear hW3
  obtain ⟨q0, q1, q2, q3, q4, q5, q6, q7, q8⟩ := HI3.out.all
  go_wp2_with fail
  refine HA2.out.mono ?_
  rintro e w5 ⟨u5, ⟨A5, n5, c5⟩, rfl, hl5, hx5, g5⟩
  have hiv5 := iv_of (s := (l92, [])) hl5 hx5
  obtain rfl : n5 = 0 := hiv5.ln
  have HI5 := Lib.hid (HI3.out.gr g5)
  have HG5 := Lib.hid (HG3.out.trans g5)
  clear q0 q1 q2 q3 q4 q5 q6 q7 q8 hiv5 hl5 hx5 g5
  obtain ⟨z0, z1, z2, z3, z4, z5, z6, z7, z8⟩ := HI5.out.all
  obtain ⟨f0, f1, f2, f3, f4, f5, f6, f7, f8⟩ := HI5.out.fz
  go_upto_region 4 with (fail)
  clear z0 z1 z2 z3 z4 z5 z6 z7 z8 f0 f1 f2 f3 f4 f5 f6 f7 f8
  change Code.wp Try.prog _ _ _ (putI w5 w2.heap.size u5 ⟨A5, 0, c5⟩)
  obtain ⟨w6, hw6, hb6, hg6⟩ : ∃ x, x = putI w5 w2.heap.size u5 ⟨A5, 0, c5⟩ ∧ IBox x w2.heap.size u5 ⟨A5, 0, c5⟩ ∧ Gr w x := ⟨_, rfl, putI_box HI5.out, putI_gr HG5.out HB2.out _ _⟩
  rw [← hw6]
  have q8 := hb6.all.2.2.2.2.2.2.2.2
  have HG6 := Lib.hid hg6
  clear hw6 hb6 hg6
  go_wp2_with fail
  go_ret
  exact ⟨rfl, HG6.out⟩

theorem addR_len {l : LG} {t : TX} (h : ∀ i, i < 8 → (l i).length ≤ 1024) : ∀ i, i < 8 → ((addR l t).2 i).length ≤ 1024 := by
  have hn : ∀ i, i < 8 → (nilL i).length ≤ 1024 := fun i hi => Nat.zero_le _
  unfold addR
  split
  · split
    · split
      · split
        · exact h
        · exact hn
      · exact hn
    · split
      · split
        · next h2 =>
          intro i hi
          rw [addL_size]
          split
          · omega
          · exact h i hi
        · exact hn
      · exact hn
  · exact hn
theorem setN_len (n : Nat) (l : LG) (W : List TX) (hn : W.length < n) (h : ∀ i, i < 8 → (l i).length ≤ 1024) : ∀ i, i < 8 → ((setN n l W).1 i).length ≤ 1024 :=
  setN_ind (fun l' _ => ∀ i, i < 8 → (l' i).length ≤ 1024) (fun l' _ => ∀ i, i < 8 → (l' i).length ≤ 1024)
    (fun l' W' t h1 ht ha hc he => addR_len h1) (fun l' W' h1 _ => h1) n l W hn h
/-- What received keeps. -/
theorem fitI_rcd {s : IB} {t : TX} (h : FitI s) (ht : FitT t) : FitI (rcd s t) := by
  unfold rcd
  split
  · next hz =>
    by_cases h0 : (addR s.1 t).1 = 0
    · rw [recvR_ok h0]
      obtain ⟨-, -, -, -, g5, g6⟩ := setN_grow (s.2.length + 1) (addR s.1 t).2 s.2 (Nat.lt_succ_self _)
      exact ⟨setN_fit _ _ _ (Nat.lt_succ_self _) (addR_fitC h.fc ht.2) h.ft, fun x hx => h.ft x (g5 x hx), Nat.le_trans g6 h.le⟩
    · by_cases h9 : (addR s.1 t).1 = 90
      · rw [recvR_gap h9] at hz ⊢
        rcases holdR_ok hz with ⟨e, -⟩ | ⟨e, h64, -⟩
        · rw [e]; exact h
        · rw [e]
          have hp := plcT_le t s.2
          refine ⟨h.fc, fun x hx => ?_, ?_⟩
          · rcases mem_insert hp hx with rfl | hx
            · exact ht
            · exact h.ft x hx
          · show (s.2.insertIdx _ _).length ≤ 64
            rw [List.length_insertIdx, if_pos hp]
            omega
      · exfalso
        rw [recvR_bad h0 h9] at hz
        exact h0 hz
  · exact h
def LenI (s : IB) : Prop := ∀ i, i < 8 → (s.1 i).length ≤ 1024
theorem lenI_rcd {s : IB} {t : TX} (h : LenI s) : LenI (rcd s t) := by
  unfold rcd
  split
  · next hz =>
    by_cases h0 : (addR s.1 t).1 = 0
    · rw [recvR_ok h0]
      exact setN_len _ _ _ (Nat.lt_succ_self _) (addR_len h)
    · by_cases h9 : (addR s.1 t).1 = 90
      · rw [recvR_gap h9] at hz ⊢
        rcases holdR_ok hz with ⟨e, -⟩ | ⟨e, -, -⟩ <;> rw [e] <;> exact h
      · exfalso
        rw [recvR_bad h0 h9] at hz
        exact h0 hz
  · exact h
/-- The inbox behind a row of transactions. -/
def rcds : IB → List TX → IB
  | s, [] => s
  | s, t :: r => rcds (rcd s t) r
theorem rcds_snoc (s : IB) (L : List TX) (t : TX) : rcds s (L ++ [t]) = rcd (rcds s L) t := by
  induction L generalizing s with
  | nil => rfl
  | cons a L ih => exact ih _
theorem rcds_next {s : IB} {L : List TX} {k : Nat} {t : TX} (h : L[k]? = some t) : rcds s (L.take (k + 1)) = rcd (rcds s (L.take k)) t := by
  rw [List.take_add_one, h]
  exact rcds_snoc _ _ _
theorem rcds_keep {P : IB → Prop} {Q : TX → Prop} (hs : ∀ s t, P s → Q t → P (rcd s t)) : ∀ (L : List TX) (s : IB), P s → (∀ t ∈ L, Q t) → P (rcds s L)
  | [], _, h, _ => h
  | t :: r, s, h, hq => rcds_keep hs r _ (hs s t h (hq t List.mem_cons_self)) fun x hx => hq x (List.mem_cons_of_mem _ hx)
theorem lenI_nil : LenI (nilL, []) := fun i _ => Nat.zero_le _
/-- Where it is refused, nothing was delivered. -/
theorem recvR_no {s : IB} {t : TX} (h : ¬ (recvR s t).2.2 = 0) : (recvR s t).2.1 = 0 := by
  by_cases h0 : (addR s.1 t).1 = 0
  · rw [recvR_ok h0] at h; exact absurd rfl h
  · by_cases h9 : (addR s.1 t).1 = 90
    · rw [recvR_gap h9]
    · rw [recvR_bad h0 h9]
theorem sameIB_self (s : IB) : sameIB s s = true := by unfold sameIB; rw [sameLG_self, sameL_self]; rfl
/-- What a law's loop of received keeps: the box of the inbox, its rows. -/
structure InR (w : World) (b : Nat) (u : Nat → S3) (A : Option Addr) (n c : Nat) (s : IB) (wr : World) : Prop where
  bx : IBox wr b u ⟨A, n, c⟩
  ln : LN wr w.heap.size u s.1
  xn : XN wr w.heap.size (S3.v ⟨A, n, c⟩) s.2
  ge : w.heap.size ≤ b
  gr : Gr w wr
section
variable {w wr w' : World} {b : Nat} {u : Nat → S3} {A : Option Addr} {n c : Nat} {s : IB}
theorem InR.next (h : InR w b u A n c s wr) (g : Gr wr w') : InR w b u A n c s w' := ⟨h.bx.gr g, h.ln.gr g, h.xn.gr g, h.ge, h.gr.trans g⟩
theorem InR.iv (h : InR w b u A n c s wr) : IV wr u A n c s := iv_of h.ln h.xn
/-- What received answers is put into the box. -/
theorem InR.put (h : InR w b u A n c s wr) {u' : Nat → S3} {s' : S3} {t : TX} (g : Gr wr w') (hr : (u' = u ∧ s' = ⟨A, n, c⟩ ∧ rcd s t = s) ∨ (LN w' wr.heap.size u' (rcd s t).1 ∧ XN w' wr.heap.size s'.v (rcd s t).2)) :
    InR w b u' s'.a s'.n s'.c (rcd s t) (putI w' b u' s') := by
  have h' := h.next g
  rcases hr with ⟨rfl, rfl, e⟩ | ⟨h1, h2⟩
  · rw [e]
    exact ⟨putI_box h'.bx, h'.ln.kpI h'.bx (putI_kp _ _ _ _), h'.xn.kpI h'.bx (putI_kp _ _ _ _), h.ge, putI_gr h'.gr h.ge _ _⟩
  · exact ⟨putI_box h'.bx, (h1.kpI h'.bx (putI_kp _ _ _ _)).le h.gr.size, (h2.kpI h'.bx (putI_kp _ _ _ _)).le h.gr.size, h.ge, putI_gr h'.gr h.ge _ _⟩
end
theorem fitT_of_x {t : TX} (h : FitX t) : FitT t := ⟨h.seq, by have := h.len; omega, fun o ho => ⟨(h.ops o ho).2.2.1, (h.ops o ho).2.2.2⟩⟩
theorem insT_memA {t x : TX} {L : List TX} (h : x ∈ insT t L) : x = t ∨ x ∈ L := by
  unfold insT at h
  rcases List.mem_append.1 h with h | h
  · exact .inr (List.mem_of_mem_take h)
  · rcases List.mem_cons.1 h with h | h
    · exact .inl h
    · exact .inr (List.mem_of_mem_drop h)
theorem insT_memB {t x : TX} {L : List TX} (h : x = t ∨ x ∈ L) : x ∈ insT t L := by
  unfold insT
  rcases h with h | h
  · rw [h]; exact List.mem_append_right _ List.mem_cons_self
  · rw [← List.take_append_drop (plc t L L.length) L] at h
    rcases List.mem_append.1 h with h | h
    · exact List.mem_append_left _ h
    · exact List.mem_append_right _ (List.mem_cons_of_mem _ h)
theorem ordIn_memA {l : LG} {i : Nat} {acc : List TX} {x : TX} : ∀ {d : Nat}, d ≤ (l i).length → (x ∈ ordIn l i acc d ↔ x ∈ acc ∨ ∃ k, k < d ∧ (l i)[k]? = some x)
  | 0, _ => ⟨.inl, fun h => h.elim id fun ⟨k, hk, _⟩ => absurd hk (Nat.not_lt_zero _)⟩
  | d + 1, hd => by
    have ht : (l i)[d]? = some (l i)[d] := List.getElem?_eq_getElem (by omega)
    rw [ordIn_at ht]
    have ih := ordIn_memA (l := l) (i := i) (acc := acc) (x := x) (d := d) (by omega)
    refine ⟨fun h => ?_, fun h => ?_⟩
    · rcases insT_memA h with h | h
      · exact .inr ⟨d, by omega, by rw [h]; exact ht⟩
      · rcases ih.1 h with h | ⟨k, hk, hx⟩
        · exact .inl h
        · exact .inr ⟨k, by omega, hx⟩
    · refine insT_memB ?_
      rcases h with h | ⟨k, hk, hx⟩
      · exact .inr (ih.2 (.inl h))
      · by_cases e : k = d
        · subst e; rw [ht] at hx; injection hx with hx; exact .inl hx.symm
        · exact .inr (ih.2 (.inr ⟨k, by omega, hx⟩))
theorem ordTo_memA {l : LG} {v : Nat → Nat} {x : TX} : ∀ {n : Nat}, (∀ i, i < n → v i ≤ (l i).length) → (x ∈ ordTo l v n ↔ ∃ i k, i < n ∧ k < v i ∧ (l i)[k]? = some x)
  | 0, _ => ⟨fun h => (by cases h), fun ⟨i, k, h, _⟩ => absurd h (Nat.not_lt_zero _)⟩
  | n + 1, hv => by
    have ih := ordTo_memA (l := l) (v := v) (x := x) (n := n) fun i hi => hv i (by omega)
    show x ∈ ordIn l n (ordTo l v n) (v n) ↔ _
    rw [ordIn_memA (hv n (by omega))]
    refine ⟨fun h => ?_, fun ⟨i, k, hi, hk, hx⟩ => ?_⟩
    · rcases h with h | ⟨k, hk, hx⟩
      · obtain ⟨i, k, hi, hk, hx⟩ := ih.1 h
        exact ⟨i, k, by omega, hk, hx⟩
      · exact ⟨n, k, by omega, hk, hx⟩
    · by_cases e : i = n
      · subst e; exact .inr ⟨k, hk, hx⟩
      · exact .inl (ih.2 ⟨i, k, by omega, hk, hx⟩)
theorem mt_selfA (v : Nat → Nat) : mt v v = v := by funext i; show min _ _ = _; omega
theorem ordR_memA {l : LG} {x : TX} : x ∈ ordR l (sizeV l) ↔ ∃ i, i < 8 ∧ x ∈ l i := by
  unfold ordR
  rw [mt_selfA, ordTo_memA (v := sizeV l) fun i _ => Nat.le_refl _]
  refine ⟨fun ⟨i, k, hi, _, hx⟩ => ⟨i, hi, List.mem_of_getElem? hx⟩, fun ⟨i, hi, hx⟩ => ?_⟩
  obtain ⟨k, hk⟩ := List.mem_iff_getElem?.1 hx
  exact ⟨i, k, hi, (List.getElem?_eq_some_iff.1 hk).1, hk⟩
theorem ordR_lenA (l : LG) : (ordR l (sizeV l)).length = cntL l := by
  rw [ordR_len, mt_selfA]
  have e : ∀ k, sumTo (sizeV l) k = cntTo l k := fun k => by
    induction k with
    | zero => rfl
    | succ k ih => show sumTo (sizeV l) k + _ = cntTo l k + _; rw [ih]; rfl
  exact e 8
/-- What holds of an inbox into which k transactions of L came. -/
structure EI (L : List TX) (s : IB) (k : Nat) : Prop where
  ok : OkL s.1
  le : s.2.length ≤ k
  mem : ∀ x ∈ s.2, x ∈ L
  lg : ∀ i x, i < 8 → x ∈ s.1 i → x ∈ L
theorem okL_nil : OkL nilL := ⟨fun _ _ => Nat.zero_le _, fun i k t _ h => (by cases h)⟩
theorem ei_nil (L : List TX) : EI L (nilL, []) 0 := ⟨okL_nil, Nat.le_refl _, fun x h => (by cases h), fun i x _ h => (by cases h)⟩
theorem addR_okL {l : LG} {t : TX} (h : OkL l) (h0 : (addR l t).1 = 0) : OkL (addR l t).2 := by
  obtain ⟨hok, i, hi, ho, ⟨e, -⟩ | ⟨e, h1, hb, h2⟩⟩ := addR_ok h0
  · rw [e]; exact h
  · rw [e]; exact okL_add h hok ho hi h1 hb h2
theorem addR_lg {l : LG} {t x : TX} {i : Nat} (h0 : (addR l t).1 = 0) (hx : x ∈ (addR l t).2 i) : x = t ∨ x ∈ l i := by
  obtain ⟨hok, j, hj, ho, ⟨e, -⟩ | ⟨e, -⟩⟩ := addR_ok h0
  · rw [e] at hx; exact .inr hx
  · rw [e] at hx
    unfold addL at hx
    split at hx
    · next e2 =>
      rcases List.mem_append.1 hx with hx | hx
      · rw [e2]; exact .inr hx
      · exact .inl (List.mem_singleton.1 hx)
    · exact .inr hx
/-- One more transaction of L comes: how many are delivered, and what holds behind. -/
theorem ei_next {L : List TX} {s : IB} {k : Nat} {t : TX} (h : EI L s k) (ht : t ∈ L) : EI L (rcd s t) (k + 1) ∧ ((recvR s t).2.2 = 0 → (recvR s t).2.1 = (cntL (rcd s t).1 : Int) - (cntL s.1 : Int) ∧ cntL s.1 ≤ cntL (rcd s t).1 ∧ cntL (rcd s t).1 ≤ cntL s.1 + (k + 1)) := by
  by_cases hz : (recvR s t).2.2 = 0
  · have er : rcd s t = (recvR s t).1 := if_pos hz
    rw [er]
    by_cases h0 : (addR s.1 t).1 = 0
    · rw [recvR_ok h0]
      simp only
      obtain ⟨g1, g2, g3, g4, g5, g6⟩ := setN_grow (s.2.length + 1) (addR s.1 t).2 s.2 (Nat.lt_succ_self _)
      have hc := addR_cnt h0
      have hle := h.le
      have hi := setN_ind (fun l' W' => OkL l' ∧ (∀ x ∈ W', x ∈ L) ∧ ∀ i x, i < 8 → x ∈ l' i → x ∈ L) (fun l' _ => OkL l' ∧ ∀ i x, i < 8 → x ∈ l' i → x ∈ L)
        (fun l' W' x ⟨a1, a2, a3⟩ hx ha hc he => ⟨addR_okL a1 ha, fun y hy => by
          rcases letF_mem _ _ _ hy with hy | hy
          · cases hy
          · exact a2 y hy, fun i y hi hy => by
          rcases addR_lg ha hy with hy | hy
          · rw [hy]; exact a2 x hx
          · exact a3 i y hi hy⟩) (fun l' W' ⟨a1, _, a3⟩ _ => ⟨a1, a3⟩) (s.2.length + 1) (addR s.1 t).2 s.2 (Nat.lt_succ_self _)
        ⟨addR_okL h.ok h0, h.mem, fun i y hi hy => by
          rcases addR_lg h0 hy with hy | hy
          · rw [hy]; exact ht
          · exact h.lg i y hi hy⟩
      exact ⟨⟨hi.1, by omega, fun x hx => h.mem x (g5 x hx), hi.2⟩, fun _ => ⟨trivial, by omega, by omega⟩⟩
    · by_cases h9 : (addR s.1 t).1 = 90
      · rw [recvR_gap h9] at hz ⊢
        simp only at hz ⊢
        have hlg : (holdR s t).1.1 = s.1 := by
          rcases holdR_ok hz with ⟨e, -⟩ | ⟨e, -, -⟩ <;> rw [e]
        refine ⟨?_, fun _ => ⟨by rw [hlg]; omega, by rw [hlg]; omega, by rw [hlg]; omega⟩⟩
        rcases holdR_ok hz with ⟨e, -⟩ | ⟨e, -, -⟩
        · rw [e]; exact ⟨h.ok, Nat.le_succ_of_le h.le, h.mem, h.lg⟩
        · rw [e]
          have hp := plcT_le t s.2
          refine ⟨h.ok, ?_, fun x hx => ?_, h.lg⟩
          · show (s.2.insertIdx _ _).length ≤ _
            rw [List.length_insertIdx, if_pos hp]
            have := h.le
            omega
          · rcases mem_insert hp hx with hx | hx
            · rw [hx]; exact ht
            · exact h.mem x hx
      · exfalso
        rw [recvR_bad h0 h9] at hz
        exact h0 hz
  · have er : rcd s t = s := if_neg hz
    rw [er]
    exact ⟨⟨h.ok, Nat.le_succ_of_le h.le, h.mem, h.lg⟩, fun q => absurd q hz⟩
end Go.Proofs.Ytjpiemgpbakfaaa
