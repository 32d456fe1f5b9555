/- Of each key the last change, rising: the program's. Walks: a batch is written, the program's. -/
import Derived.Test.YtlnhbndghnkfmaaGreatDoorZm34
import Derived.Test.YtlnhbndghnkfmaaGreatDoorZm11
import Derived.BigFrame
import Derived.Test.YtlnhbndghnkfmaaGreatDoorZm29
namespace Go.Proofs.YtlnhbndghnkfmaaGreatDoor
open Go.RowKit

set_option maxRecDepth 100000 in
theorem ins_zero (v f : Value) (w : World) : Calls Tryz.prog 164 #[v, .int .i64 0, .int .i64 0, f] w fun e w' => e = .returned (.tuple #[]) ∧ w' = w := by
  go_enter Tryz.func164, Tryz.ntmps164
  go_wp2_with fail
  go_rounds 1
  go_end0
  exact ⟨rfl, rfl⟩
set_option maxRecDepth 100000 in
theorem stable_zero (v f : Value) (w : World) : Calls Tryz.prog 133 #[v, .int .i64 0, f] w fun e w' => e = .returned (.tuple #[]) ∧ w' = w := by
  have H1 := Lib.hid (fun w => ins_zero v f w)
  go_enter Tryz.func133, Tryz.ntmps133
  go_wp2_with fail
  refine wp_loop_rounds 1 ?_
  rw [rounds_succ]
  go_wp2_with fail
  refine (H1.out _).mono ?_
  rintro e w' ⟨rfl, rfl⟩
  go_wp2_with fail
  refine wp_loop_rounds 1 ?_
  rw [rounds_succ]
  go_wp2_with fail
  go_end0
  exact ⟨rfl, rfl⟩
theorem sortStable_zero (A : Option Addr) (c : Nat) (f : Value) (w : World) : Calls Tryz.prog 101 #[.slice A 0 c, f] w fun e w' => e = .returned (.tuple #[]) ∧ w' = w := by
  have H1 := Lib.hid (fun w => stable_zero (.slice A 0 c) f w)
  go_enter Tryz.func101, Tryz.ntmps101
  go_wp2_with fail
  refine (H1.out _).mono ?_
  rintro e w' ⟨rfl, rfl⟩
  go_wp2_with fail
  go_end0
  exact ⟨rfl, rfl⟩
theorem elemChange : Tryz.prog.underlying 27 = some (.slice (Tryz.prog.elem 27)) ∧ Tryz.prog.elem 27 = 70 := ⟨by kernel_rfl, by kernel_rfl⟩
theorem cslice_to (n c k : Nat) (hk : k ≤ c) (A : Option Addr) : ∀ W : World, (Instr.slice 27 (.slice A n c) none (some (.int .i64 (k : Int))) none).run Tryz.prog W = .ok (.slice A k c) W :=
  slice_to_g 27 3 elemChange.1 (fun W => by rw [elemChange.2]; exact Tryz.sizeOf70 W) n c k hk A
/-- A call's answer: the row v, made to hold R. -/
def RetSet (B : Nat) (v : Value) (R : List CR) (w : World) (e : Ending) (w' : World) : Prop := ∃ u, e = .returned u ∧ CO w' B u R ∧ Kp v.ownBlock w w' ∧ (u.ownBlock = v.ownBlock)
/-- Amid the loop: q changes kept, the rest from i on as it was. -/
structure Sett (S M : List CR) (i q : Nat) : Prop where
  len : M.length = S.length
  num : q = (keptTo S i).length
  front : M.take q = keptTo S i
  rest : ∀ j (_ : j < S.length), i ≤ j → M[j]? = some S[j]
theorem Sett.start (S : List CR) : Sett S S 0 0 := ⟨rfl, rfl, rfl, fun _ h _ => List.getElem?_eq_getElem h⟩
theorem Sett.at_ {S M : List CR} {i q j : Nat} (h : Sett S M i q) (hj : j < S.length) (hij : i ≤ j) (hm : j < M.length) : M[j] = S[j] := by
  have := h.rest j hj hij
  rw [List.getElem?_eq_getElem hm] at this
  exact Option.some.inj this
theorem Sett.yes {S M : List CR} {i q : Nat} (h : Sett S M i q) (hi : i < S.length) (hl : isLast S i = true) : Sett S (M.set q S[i]) (i + 1) (q + 1) := by
  have hq : q ≤ i := by rw [h.num]; exact keptTo_le S i
  have hk := keptTo_yes hi hl
  refine ⟨by rw [List.length_set]; exact h.len, by rw [hk, List.length_append, ← h.num]; rfl, ?_, fun j hj hij => ?_⟩
  · rw [hk, ← h.front]
    have hqm : q < M.length := by rw [h.len]; omega
    rw [List.take_succ_eq_append_getElem (by rw [List.length_set]; exact hqm), List.getElem_set_self, List.take_set_of_le (Nat.le_refl _)]
  · rw [List.getElem?_set_ne (by omega)]
    exact h.rest j hj (by omega)
theorem Sett.no {S M : List CR} {i q : Nat} (h : Sett S M i q) (hl : isLast S i = false) : Sett S M (i + 1) q := by
  have hk := keptTo_no hl
  exact ⟨h.len, by rw [hk]; exact h.num, by rw [hk]; exact h.front, fun j hj _ => h.rest j hj (by omega)⟩
theorem ccell_of {w : World} {B g n c : Nat} {M : List CR} (h : CO w B (.slice (some ⟨g, 0, none⟩) n c) M) {j : Nat} (hj : j < M.length) : CCell w g (0 + j * 3) M[j] := by
  obtain ⟨A, c', hv, _, _, hc⟩ := h.cv
  obtain ⟨b, off, ha, hcc⟩ := hc j hj
  injection hv with e1 e2 e3
  rw [← e1] at ha
  injection ha with ha
  injection ha with h1 h2
  subst h1 h2
  exact hcc
theorem co_front {w : World} {B g n c q : Nat} {M : List CR} (h : CO w B (.slice (some ⟨g, 0, none⟩) n c) M) (hn : n = M.length) (hq : q ≤ n) : CO w B (.slice (some ⟨g, 0, none⟩) q c) (M.take q) := by
  subst hn
  have h' := own_prefix h hq
  unfold CO
  rw [List.length_take, Nat.min_eq_left hq]
  unfold ccells at h' ⊢
  rwa [rows_take ccell 3 ccell_len] at h'
set_option maxRecDepth 100000 in
set_option maxHeartbeats 2000000 in
theorem settled_any (v : Value) (L : List CR) (B : Nat) (w : World) (hv : CO w B v L) (hlen : L.length * 40 ≤ 140737488355328) :
    Calls Tryz.prog 61 #[v] w fun e w' => RetSet B v (puts [] L) w e w' := by
  rcases Nat.eq_zero_or_pos L.length with h0 | h0
  · have hL := List.length_eq_zero_iff.1 h0
    subst hL
    obtain ⟨A, c, rfl, -, -⟩ := own_form hv
    have H1 := Lib.hid (fun f w => sortStable_zero A c f w)
    have hsl := cslice_to 0 c 0 (Nat.zero_le _) A
    have HV := Lib.hid hv
    clear hv h0 hlen
    go_enter Tryz.func61, Tryz.ntmps61
    go_wp2_with fail
    refine (H1.out _ _).mono ?_
    rintro e w' ⟨rfl, rfl⟩
    go_wp2_with fail
    go_rounds 1
    go_ret
    exact ⟨_, rfl, HV.out, Kp.refl _ _, rfl⟩
  · rcases hv.2 with ⟨rfl, h1⟩ | ⟨g, c, cur, rfl, hb, hg, hnc, hm, hcs, -⟩
    · exfalso; omega
    have hgl : g < w.heap.size := (Array.getElem?_eq_some_iff.1 hg).1
    obtain ⟨n, hn⟩ : ∃ n, n = L.length := ⟨_, rfl⟩
    rw [← hn] at hv hnc hlen h0
    have H1 := Lib.hid (sortStable_any g 0 c n (tagged L) w (by rw [tagged_size, hn]) (holds_of_own hv hn) encT_one hgl (by rw [tagged_size, ← hn]; omega) (by rw [tagged_size]; exact tagged_rise L))
    have hsl := cslice_to n c 0 (Nat.zero_le _) (some ⟨g, 0, none⟩)
    have HV := Lib.hid hv
    have HN := Lib.hid hn
    have hc63 : n ≤ 9223372036854775807 := by omega
    clear hv hn hg hcs hm hb
    rw [← HN.out]
    go_enter Tryz.func61, Tryz.ntmps61
    go_wp2_with fail
    refine H1.out.mono ?_
    rintro e w1 ⟨rfl, d', S1, F1⟩
    have hds : d'.size = L.length := by rw [S1.same, tagged_size]
    obtain ⟨S, hS⟩ : ∃ S, S = d'.toList.map Prod.fst := ⟨_, rfl⟩
    have HSO : Hid (CO w1 B (.slice (some ⟨g, 0, none⟩) n c) S) := Lib.hid (by
      have h := HV.out
      rw [HN.out] at h ⊢
      rw [hS]
      exact own_of_sw h S1)
    have HKP := Lib.hid (sw_kp S1.sw)
    have HSP : Hid (lastsC S = puts [] L) := Lib.hid (by rw [hS]; exact seg_puts hds (by rw [← HN.out]; exact F1))
    have hSn : S.length = n := by rw [hS, List.length_map, HN.out]; simpa using hds
    have HSN := Lib.hid hSn
    clear S1 F1 hds hS H1 hSn
    go_wp2_with fail
    go_loopg [3, 12] (n + 1) (fun kx s3 s12 wr => ∃ (i q : Nat) (M : List CR), s3 = .slice (some ⟨g, 0, none⟩) q c ∧ s12 = .int .i64 (i : Int) ∧ i ≤ n ∧ q ≤ i ∧ n - i ≤ kx ∧ Hid (Sett S M i q) ∧ Hid (CO wr B (.slice (some ⟨g, 0, none⟩) n c) M) ∧ Hid (Kp (some g) w wr))
    case atStart => exact ⟨0, 0, S, rfl, rfl, Nat.zero_le _, Nat.le_refl _, by omega, Lib.hid (Sett.start S), HSO, HKP⟩
    case round =>
      clear HSO HKP
      obtain ⟨i, q, M, rfl, rfl, hi, hq, hkx, HT, HO, HK⟩ := hrel
      by_cases hlt : i < n
      · have hiS : i < S.length := by rw [HSN.out]; exact hlt
        have hMn : M.length = n := HT.out.len.trans HSN.out
        have hci := ccell_of HO.out (j := i) (by omega)
        rw [HT.out.at_ hiS (Nat.le_refl _) (by omega)] at hci
        have HY := Lib.hid (fun h => HT.out.yes hiS h)
        obtain ⟨x, hx⟩ : ∃ x, x = S[i].key := ⟨_, rfl⟩
        obtain ⟨y, hy⟩ : ∃ y, y = S[i].val := ⟨_, rfl⟩
        obtain ⟨z, hz⟩ : ∃ y, y = S[i].gone := ⟨_, rfl⟩
        have HE : Hid (S[i] = ⟨x, y, z⟩) := Lib.hid (by rw [hx, hy, hz])
        unfold CCell at hci
        rw [← hx, ← hy, ← hz] at hci
        rw [HE.out] at HY
        simp only [Nat.zero_add] at hci
        have c0 := hci.1
        have c1 := hci.2.1
        have c2 := hci.2.2
        have t0 : (0 : Int) ≤ (i : Int) := by omega
        have t1 : (i : Int) < (n : Int) := by omega
        have HMN := Lib.hid hMn
        by_cases hend : i + 1 = n
        · have te : (((i : Int) + 1) == (n : Int)) = true := by rw [beq_iff_eq]; omega
          have HYY := Lib.hid (HY.out (isLast_end (by rw [HSN.out]; omega)))
          clear hx hy hz hci hMn hend HY HE
          go_wp2_with fail
          go_quiet (fail)
          have HO2 : Hid (∀ W', Gr wr W' → CO W' B (.slice (some ⟨g, 0, none⟩) n c) M) := Lib.hid (fun W' h => HO.out.gr h)
          go_wp2_with (at_builtin; refine wpList_push_in rfl (.tmp 33) (.tmp 35) rfl B g n c q (.slice (some ⟨wr.heap.size + 1, 0, none⟩) 1 1) M ⟨x, y, z⟩ HMN.out.symm rfl (HO2.out _ ((((gr_box _ _).drewN _)).alloc _)) (by omega) rfl (cv_one _ _ _ _ _ (by simp)) ?_)
          intro w5 hp5 g5
          have HP5 := Lib.hid hp5
          have HK5 := Lib.hid ((HK.out.gr (((gr_box _ _).drewN _).alloc _)).trans g5)
          clear hp5 g5 c0 c1 c2
          go_wp2
          go_roundg (n - (i + 1))
          case measure => omega
          case rel => exact ⟨i + 1, q + 1, _, rfl, by go_num, by omega, by omega, Nat.le_refl _, HYY, HP5, HK5⟩
        · have hj : i + 1 < n := by omega
          have te : (((i : Int) + 1) == (n : Int)) = false := by rw [beq_eq_false_iff_ne]; omega
          have hjS : i + 1 < S.length := by rw [HSN.out]; exact hj
          have hcj := (ccell_of HO.out (j := i + 1) (by omega)).1
          rw [HT.out.at_ hjS (by omega) (by omega), Nat.zero_add] at hcj
          have hml := isLast_mid hjS
          rw [HE.out] at hml
          obtain ⟨x2, hx2⟩ : ∃ x, x = S[i + 1].key := ⟨_, rfl⟩
          rw [← hx2] at hcj hml
          have hcj2 := fun nq => ((gr_box wr (.cells #[.string x, .string y, .bool z] 70)).drewN nq).cell hcj
          have t2 : (0 : Int) ≤ (i : Int) + 1 := by omega
          have t3 : (i : Int) + 1 < (n : Int) := by omega
          have t4 : ((i : Int) + 1).toNat = i + 1 := by omega
          have t5 : IntKind.i64.wrap ((i : Int) + 1) = (i : Int) + 1 := by rw [IntKind.wrap_i64]; omega
          obtain ⟨eq, heq⟩ : ∃ b, b = eqS x2 x := ⟨_, rfl⟩
          have tq : (x2.toList == x.toList) = eq := heq.symm
          have HML : Hid (isLast S i = !eq) := Lib.hid (by rw [hml, heq])
          have HNO := Lib.hid (fun h => HT.out.no (i := i) h)
          rcases eq with _ | _
          · have HYY := Lib.hid (HY.out HML.out)
            clear hx hy hz hci hMn hend HY HE hml hx2 heq
            go_wp2_with fail
            go_quiet (fail)
            have HO2 : Hid (∀ W', Gr wr W' → CO W' B (.slice (some ⟨g, 0, none⟩) n c) M) := Lib.hid (fun W' h => HO.out.gr h)
            go_wp2_with (at_builtin; refine wpList_push_in rfl (.tmp 33) (.tmp 35) rfl B g n c q (.slice (some ⟨wr.heap.size + 1, 0, none⟩) 1 1) M ⟨x, y, z⟩ HMN.out.symm rfl (HO2.out _ ((((gr_box _ _).drewN _)).alloc _)) (by omega) rfl (cv_one _ _ _ _ _ (by simp)) ?_)
            intro w5 hp5 g5
            have HP5 := Lib.hid hp5
            have HK5 := Lib.hid ((HK.out.gr (((gr_box _ _).drewN _).alloc _)).trans g5)
            clear hp5 g5 c0 c1 c2 hcj hcj2
            go_wp2
            go_roundg (n - (i + 1))
            case measure => omega
            case rel => exact ⟨i + 1, q + 1, _, rfl, by go_num, by omega, by omega, Nat.le_refl _, HYY, HP5, HK5⟩
          · have HYY := Lib.hid (HNO.out HML.out)
            clear hx hy hz hci hMn hend HY HE hml hx2 heq
            go_wp2_with fail
            go_quiet (fail)
            have HP5 : Hid (∀ nq, CO ((wr.alloc (.cells #[.string x, .string y, .bool z] 70)).drewN nq) B (.slice (some ⟨g, 0, none⟩) n c) M) := Lib.hid (fun nq => HO.out.gr ((gr_box _ _).drewN nq))
            have HK5 : Hid (∀ nq, Kp (some g) w ((wr.alloc (.cells #[.string x, .string y, .bool z] 70)).drewN nq)) := Lib.hid (fun nq => HK.out.gr ((gr_box _ _).drewN nq))
            clear c0 c1 c2 hcj hcj2
            go_wp2
            go_roundg (n - (i + 1))
            case measure => omega
            case rel => exact ⟨i + 1, q, M, rfl, by go_num, by omega, by omega, Nat.le_refl _, HYY, Lib.hid (HP5.out _), Lib.hid (HK5.out _)⟩
      · have hin : i = n := by omega
        have HR : Hid (M.take q = puts [] L) := Lib.hid (by rw [HT.out.front, hin, ← HSN.out, keptTo_all, HSP.out])
        have HP := Lib.hid (co_front HO.out (HT.out.len.trans HSN.out).symm (show q ≤ n by omega))
        clear hin
        go_wp2_with fail
        go_ret
        exact ⟨_, rfl, by rw [← HR.out]; exact HP.out, HK.out, rfl⟩
end Go.Proofs.YtlnhbndghnkfmaaGreatDoor
namespace Go.Proofs.YtlnhbndghnkfmaaGreatDoor
open Go.RowKit

section
variable {P : Program} {ops : Array Oper} {o : Oper} {a : Act} {W : World} {K : Act → World → Prop} {Q : Exit → Act → World → Prop} {E : Prop}
/-- A call of a function, as a step of a region that draws its order. -/
theorem step_call (hgd : o.guard = none) (f : FuncId) (args : List Operand) (ts : Array TypeId) (ho : o.op = .call { callee := .value (.func f), args := args.toArray, argTypes := ts }) (vals : List Value) (hv : args.map a.eval = vals) (hf : ∀ vals, (callFunc f vals).run P W = .ok (.enter f vals) W)
    {X : Value → World → Prop} (hc : Calls P f vals.toArray W fun e w' => ∃ v, e = .returned v ∧ X v w') (h : ∀ v w', X v w' → K (a.put o.dst v) w') :
    if Region.wanted o (yielded ops a.tmps) = true then Oper.wp P o a W K Q else E := by
  have hw : Region.wanted o (yielded ops a.tmps) = true := by simp [Region.wanted, hgd]
  rw [if_pos hw]
  unfold Oper.wp
  have e : (execOp a.eval o).run P W = .ok (.enter f vals.toArray) W := by
    subst hv
    simp [execOp, ho, resolve, invoke, Act.eval, go_sem]
    exact hf _
  rw [e, Oper.upon_enter]
  refine hc.mono ?_
  rintro e w' ⟨v, rfl, hx⟩
  exact h v w' hx
end
section
variable {ops : Array Oper} {o : Oper} {a : Act} {W : World} {K : Act → World → Prop} {Q : Exit → Act → World → Prop} {E : Prop}
theorem step_push_c (hgd : o.guard = none) (s x : Operand)
    (ho : o.op = .call { callee := .builtin .append, args := #[s, x], argTypes := #[27, 27] })
    (B : Nat) (v vx : Value) (L M : List CR) (n m : Nat) (hn : n = L.length) (hm : m = M.length) (hs : a.eval s = v) (hown : CO W B v L) (hx : a.eval x = vx) (hxv : CV W vx M) (hlen : (n + m) * 40 ≤ 140737488355328) (hB : B ≤ W.heap.size)
    (h : ∀ A' c' w', CO w' B (.slice A' (n + m) c') (L ++ M) → Kp v.ownBlock W w' → K (a.put o.dst (.slice A' (n + m) c')) w') :
    if Region.wanted o (yielded ops a.tmps) = true then Oper.wp Tryz.prog o a W K Q else E := by
  subst hn hm
  obtain ⟨i0, hi, hz0, hz1, hz2⟩ := info_parts infoChange
  refine step_append_sl W hgd s x 27 ho B 70 i0 _ 3 40 Tryz.underlying27 hi hz0 hz1 hz2 rfl (by decide) v L.length (ccells L) hs hown vx M.length (ccells M) hx
    hxv.sl (ccells_one M) (by unfold maxLen; omega) hlen hB (L.length + M.length) rfl ?_
  intro A' c' w' hown' hgr _
  refine h A' c' w' ?_ hgr
  unfold CO
  rw [List.length_append]
  unfold ccells at hown' ⊢
  rw [List.flatMap_append]
  exact hown'
end
theorem cf_logPrefix (W : World) (vals : Array Value) : (callFunc 74 vals).run Tryz.prog W = .ok (.enter 74 vals) W := by
  have hf : Tryz.prog.funcs[74]? = some Tryz.f74 := Tryz.func74
  simp [callFunc, hf, Tryz.f74, go_sem]
theorem cf_append (W : World) (vals : Array Value) : (callFunc 111 vals).run Tryz.prog W = .ok (.enter 111 vals) W := by
  have hf : Tryz.prog.funcs[111]? = some Tryz.f111 := Tryz.func111
  simp [callFunc, hf, Tryz.f111, go_sem]
theorem cf_copied (W : World) (vals : Array Value) : (callFunc 63 vals).run Tryz.prog W = .ok (.enter 63 vals) W := by
  have hf : Tryz.prog.funcs[63]? = some Tryz.f63 := Tryz.func63
  simp [callFunc, hf, Tryz.f63, go_sem]
theorem cf_settled (W : World) (vals : Array Value) : (callFunc 61 vals).run Tryz.prog W = .ok (.enter 61 vals) W := by
  have hf : Tryz.prog.funcs[61]? = some Tryz.f61 := Tryz.func61
  simp [callFunc, hf, Tryz.f61, go_sem]
theorem cf_tablesOf (W : World) (vals : Array Value) : (callFunc 62 vals).run Tryz.prog W = .ok (.enter 62 vals) W := by
  have hf : Tryz.prog.funcs[62]? = some Tryz.f62 := Tryz.func62
  simp [callFunc, hf, Tryz.f62, go_sem]
theorem batchL_zero : ∀ {L : List CR}, batchL L = 0 → ∀ c ∈ L, chE c = 0
  | [], _, c, hc => by cases hc
  | d :: r, h, c, hc => by
    by_cases e : chE d = 0
    · unfold batchL at h
      rw [if_pos e] at h
      rcases List.mem_cons.1 hc with rfl | hc
      · exact e
      · exact batchL_zero h c hc
    · unfold batchL at h
      rw [if_neg e] at h
      exact absurd h e
theorem chE_zero {c : CR} (h : chE c = 0) : c.key.size ≤ 64 ∧ c.val.size ≤ 4096 := by
  unfold chE at h
  split at h
  · cases h
  · split at h
    · cases h
    · omega
theorem batchE_zero {L : List CR} (h : batchE L = 0) : 0 < L.length ∧ L.length ≤ 64 ∧ ∀ c ∈ L, chE c = 0 := by
  unfold batchE at h
  split at h
  · cases h
  · split at h
    · cases h
    · exact ⟨by omega, by omega, batchL_zero h⟩
theorem tot_recF : ∀ {L : List CR}, (∀ c ∈ L, chE c = 0) → tot (recF L) ≤ L.length * 4200
  | [], _ => Nat.le_refl _
  | c :: r, h => by
    have h1 := chE_zero (h c (List.mem_cons_self ..))
    have h2 := tot_recF (L := r) (fun d hd => h d (List.mem_cons_of_mem _ hd))
    have e : tot (recF (c :: r)) = (4 + (kindC c.gone).size + (4 + c.key.size + (4 + c.val.size + tot (recF r)))) := rfl
    have e2 : (kindC c.gone).size = 1 := by unfold kindC; cases c.gone <;> rfl
    rw [e, e2, show (c :: r).length = r.length + 1 from rfl]
    omega
theorem okPack_recF {L : List CR} (h : batchE L = 0) : okPack (recF L) := by
  obtain ⟨h1, h2, h3⟩ := batchE_zero h
  refine ⟨by rw [recF_len]; omega, ?_, ?_⟩
  · intro s hs
    unfold recF at hs
    obtain ⟨c, hc, hs⟩ := List.mem_flatMap.1 hs
    have h4 := chE_zero (h3 c hc)
    have e2 : (kindC c.gone).size = 1 := by unfold kindC; cases c.gone <;> rfl
    simp only [List.mem_cons, List.not_mem_nil, or_false] at hs
    rcases hs with rfl | rfl | rfl <;> omega
  · have := tot_recF h3
    omega
/-- Write, in plain words. -/
def writeR (s : St) (l : List CR) : St × List O × Nat :=
  if batchE l ≠ 0 then (st0, [], batchE l)
  else
    if (appendPlan s.files (logW s.gen) (bs (packL (recF l)))).2 ≠ 0 then (st0, [], (appendPlan s.files (logW s.gen) (bs (packL (recF l)))).2)
    else if 1024 < (puts [] (s.mem ++ l)).length then (st0, [], 4)
    else (⟨(run s.files (appendPlan s.files (logW s.gen) (bs (packL (recF l)))).1).1, puts [] (s.mem ++ l), s.tabs, s.gen, s.marks⟩, (appendPlan s.files (logW s.gen) (bs (packL (recF l)))).1, (run s.files (appendPlan s.files (logW s.gen) (bs (packL (recF l)))).1).2.2)
theorem meth_no {B bd : Nat} {er : Nat} (he : er ≠ 0) {w w' : World} (h : Below B w w') : RetMeth B bd (st0, [], er) w (.returned (.int .i64 (er : Int))) w' := ⟨rfl, fun h => absurd h he, h⟩
theorem gr_below {B : Nat} {w w' : World} (h : Gr w w') (hB : B ≤ w.heap.size) : Below B w w' := below_le h hB
/-- What lies behind Mem's new row. -/
theorem mem_fin {w W w2 w4 w5 : World} {B bd : Nat} {vF vM vT vD vP v4 v5 : Value} {L : List F} {M M4 M5 : List CR} {T : List ByteArray} {g m : Nat} {D P : List O} (hW : Gr w W) (hB : B ≤ w.heap.size) (hD : DRow W B bd vF vM vT vD L M T g m D) (hP : OO W B vP P)
    (g2 : Gr W w2) (hown : CO w4 B v4 M4) (hk : Kp vM.ownBlock w2 w4) (hown5 : CO w5 B v5 M5) (hk5 : Kp v4.ownBlock w4 w5) :
    DRow (w5.setCell ⟨bd, 1, none⟩ v5) B bd vF v5 vT vD L M5 T g m D ∧ OO (w5.setCell ⟨bd, 1, none⟩ v5) B vP P ∧ Below B w (w5.setCell ⟨bd, 1, none⟩ v5) := by
  have hd := hD.gr g2
  have hp := hP.gr g2
  have n1 := own_ne_obj hd.mem hd.obj (by decide)
  have o4 := kp_obj hk hd.obj n1
  have n4 := own_ne_obj hown o4 (by decide)
  have o5 := kp_obj hk5 o4 n4
  have f4 := own_past hd.files hd.mem (by decide) hk
  have t4 := own_past hd.tabs hd.mem (by decide) hk
  have d4 := own_past hd.ops hd.mem (by decide) hk
  have p4 := own_past hp hd.mem (by decide) hk
  have f5 := own_past f4 hown (by decide) hk5
  have t5 := own_past t4 hown (by decide) hk5
  have d5 := own_past d4 hown (by decide) hk5
  have p5 := own_past p4 hown (by decide) hk5
  have hl4 : ∀ b, vM.ownBlock = some b → B ≤ b := fun b hb => (own_lt hd.mem hb).2
  have hl5 : ∀ b, v4.ownBlock = some b → B ≤ b := fun b hb => (own_lt hown hb).2
  have hB2 : B ≤ w2.heap.size := by have := hW.size; have := g2.size; omega
  refine ⟨⟨set_obj o5 _, hD.base, own_set_obj f5 o5 (by decide) _, own_set_obj hown5 o5 (by decide) _, own_set_obj t5 o5 (by decide) _, own_set_obj d5 o5 (by decide) _⟩, own_set_obj p5 o5 (by decide) _, ?_⟩
  have k1 : KS (fun k => B ≤ k) w w4 := (KS.of_gr (S := fun k => B ≤ k) (hW.trans g2)).trans (KS.of_kp (S := fun k => B ≤ k) hk hl4) (fun _ _ h => h)
  have k2 : KS (fun k => B ≤ k) w w5 := k1.trans (KS.of_kp (S := fun k => B ≤ k) hk5 hl5) (fun _ _ h => h)
  have k3 : KS (fun k => B ≤ k) w (w5.setCell ⟨bd, 1, none⟩ v5) := k2.trans (KS.of_kp (S := fun k => B ≤ k) ((Kp.refl (some bd) w5).set (.inr rfl) 1 v5) (fun b hb => by injection hb with hb; rw [← hb]; exact hD.base)) (fun _ _ h => h)
  exact k3.below (Below.refl _ _) hB (fun _ h => h)
end Go.Proofs.YtlnhbndghnkfmaaGreatDoor
