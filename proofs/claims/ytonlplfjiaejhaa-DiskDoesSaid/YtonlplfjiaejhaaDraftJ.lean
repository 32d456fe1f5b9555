/- Walks: bytes behind a draft's, where there is one. -/
import Derived.Test.YtonlplfjiaejhaaDraftI
namespace Go.Proofs.Ytonlplfjiaejhaa
open Go.RowKit

theorem obox (o : O) (w : World) : ∃ W, W = w.alloc (.cells #[.int .i64 o.kind, .string o.name, .string o.bytes, .int .i64 o.at_] 45) ∧ Gr w W ∧
    W.cell? ⟨w.heap.size, 0, none⟩ = some (.int .i64 o.kind) ∧ W.cell? ⟨w.heap.size, 1, none⟩ = some (.string o.name) ∧ W.cell? ⟨w.heap.size, 2, none⟩ = some (.string o.bytes) ∧ W.cell? ⟨w.heap.size, 3, none⟩ = some (.int .i64 o.at_) ∧ w.heap.size < W.heap.size :=
  ⟨_, rfl, gr_box w _, by simp, by simp, by simp, by simp, by simp⟩
theorem step_append_b {ops : Array Oper} {o : Oper} {a : Act} {W : World} {K : Act → World → Prop} {Q : Exit → Act → World → Prop} {E : Prop} (hgd : o.guard = none) (s x : Operand)
    (ho : o.op = .call { callee := .builtin .append, args := #[s, x], argTypes := #[60, 9] }) (B : Nat) (v : Value) (n N : Nat) (xs : List Value) (str : ByteArray) (hs : a.eval s = v)
    (hown : W.ownsRow B 5 1 v n xs) (hx : a.eval x = .string str) (hN : n + str.size = N) (hsz : N ≤ 140737488355328) (hB : B ≤ W.heap.size) (ad : Addr) {u : Value} (hc : W.cell? ad = some u) (hf : W.frozen? ad = false) (hlt : ad.block < W.heap.size) (hne : v.ownBlock ≠ some ad.block)
    (h : ∀ A' c' w', w'.ownsRow B 5 1 (.slice A' N c') N (xs ++ Lib.strCells str) → Kp v.ownBlock W w' → ((Value.slice A' N c').ownBlock = v.ownBlock ∨ ∃ x, (Value.slice A' N c').ownBlock = some x ∧ W.heap.size ≤ x) → w'.cell? ad = some u → w'.frozen? ad = false → K (a.put o.dst (.slice A' N c')) w') :
    if Region.wanted o (yielded ops a.tmps) = true then Oper.wp Try.prog o a W K Q else E := by
  have hw : Region.wanted o (yielded ops a.tmps) = true := by simp [Region.wanted, hgd]
  rw [if_pos hw]
  subst hN
  obtain ⟨A', c', w', hr, h2, h3, h4⟩ := run_append_bs W B o.type v n xs hown str hsz hB
  unfold Oper.wp execOp
  simp only [ho, resolve, invoke, builtin, Sem.run_bind, Sem.run_pure, Result.andThen_ok, List.map_toArray, List.map_cons, List.map_nil, hs, hx, hr]
  exact h A' c' w' h2 h3 h4 (h3.cell hc (fun e => hne e.symm)) ((h3.frozen_far ad hlt (fun e => hne e.symm)).trans hf)
theorem bcells_more (f : F) (s : ByteArray) : bcells f ++ Lib.strCells s = bcells ⟨f.name, f.kept, f.loose ++ s⟩ := by
  unfold bcells
  rw [List.append_assoc]
  congr 1
  unfold Lib.strCells
  rw [ByteArray.data_append, Array.toList_append, List.map_append]
theorem files_set (M : List FB) (i : Nat) (p : FB) : files (M.set i p) = (files M).set i p.1 := by unfold files; rw [List.map_set]
theorem files_insert (M : List FB) (i : Nat) (p : FB) : files (M.insertIdx i p) = (files M).insertIdx i p.1 := by
  unfold files
  induction M generalizing i with
  | nil => cases i <;> rfl
  | cons a M ih =>
    cases i with
    | zero => rfl
    | succ i => rw [List.insertIdx_succ_cons, List.map_cons, ih i]; rfl
theorem files_erase (M : List FB) (i : Nat) : files (M.eraseIdx i) = (files M).eraseIdx i := by
  unfold files
  induction M generalizing i with
  | nil => rfl
  | cons a M ih =>
    cases i with
    | zero => rfl
    | succ i => rw [List.eraseIdx_cons_succ, List.map_cons, ih i]; rfl
theorem RO.free {w : World} {B g n c : Nat} {M : List FB} (h : RO w B (.slice (some ⟨g, 0, none⟩) n c) M) (j : Nat) : w.frozen? ⟨g, j, none⟩ = false := by
  have hn : n = M.length := by
    rcases h.2 with ⟨hh, _⟩ | ⟨g', cap', cur, hh, _⟩
    · cases hh
    · injection hh
  subst hn
  exact h.frozenAt j
/-- A call's answer: these bytes behind a draft's. -/
def RetOld (M : List FB) (f : F) (bts : ByteArray) (i B : Nat) (v : Value) (w : World) (e : Ending) (w' : World) : Prop :=
  ∃ p : FB, e = .returned (.tuple #[v, .int .i64 0]) ∧ p.1 = ⟨f.name, f.kept, f.loose ++ bts⟩ ∧ DR w' B v (M.set i p) ∧ Below B w w'

set_option maxRecDepth 100000 in
set_option maxHeartbeats 4000000 in
theorem grow_old (v : Value) (M : List FB) (kd : Int) (nm bts : ByteArray) (at_ : Int) (B : Nat) (w : World) (hv : DR w B v M) (hB : B ≤ w.heap.size) (_hf : Fit (files M)) (hbz : bts.size ≤ 281474976710656) (i : Nat) (hi : i < M.length) (hsz : ¬ 1048576 < M[i].1.size + bts.size) :
    Calls Try.prog 34 #[v, .int .i64 (i : Int), .agg #[.int .i64 kd, .string nm, .string bts, .int .i64 at_]] w fun e w' => RetOld M M[i].1 bts i B v w e w' := by
  obtain ⟨g, c, rfl⟩ := hv.row.addr hi
  obtain ⟨hnc, hc63, hBg, hgl⟩ := own_len hv.row
  have HV := Lib.hid hv
  obtain ⟨n, hn⟩ : ∃ n, n = M.length := ⟨_, rfl⟩
  rw [← hn] at HV hnc ⊢
  have HN := Lib.hid hn
  obtain ⟨q0, q1, q2⟩ := HV.out.row.at_ hi
  have hbo := HV.out.bytes M[i] (List.getElem_mem hi)
  have hnb : M[i].2.ownBlock ≠ some g := own_types HV.out.row hbo (by decide) rfl
  obtain ⟨p, hp⟩ : ∃ p, p = M[i] := ⟨_, rfl⟩
  rw [← hp] at q0 q1 q2 hbo hsz hnb ⊢
  have HP := Lib.hid hp
  obtain ⟨f, bv⟩ := p
  obtain ⟨A1, c1, hbv, hb1, hb2⟩ := own_form hbo
  have hbv : bv = .slice A1 f.size c1 := hbv
  subst hbv
  dsimp only at q0 q1 q2 hsz hb1 ⊢
  obtain ⟨W, hW, hG, o0, o1, o2, o3, hz⟩ := obox ⟨kd, nm, bts, at_⟩ w
  dsimp only at o0 o1 o2 o3 hW
  have r1 := hG.cell q1
  have HVW := Lib.hid (HV.out.gr hG)
  have HBW : Hid (BO W B (f, .slice A1 f.size c1)) := Lib.hid (BO.gr hbo hG)
  have zf : W.frozen? ⟨g, i * 3 + 1, none⟩ = false := HVW.out.row.free _
  have HG := Lib.hid hG
  have HNB := Lib.hid hnb
  obtain ⟨N, hN⟩ : ∃ N, N = f.size := ⟨_, rfl⟩
  have HNf := Lib.hid hN
  rw [← hN] at r1 HBW hsz hb1
  have HBW2 : Hid (W.ownsRow B 5 1 (.slice A1 N c1) N (bcells f)) := Lib.hid (by have := HBW.out; unfold BO at this; rw [← hN] at this; exact this)
  have e1 : IntKind.i64.wrap ((bts.size : Int) + (N : Int)) = (bts.size : Int) + (N : Int) := IntWalk.i64_in _ ⟨by omega, by omega⟩
  have hil : i < n := by rw [HN.out]; exact hi
  have HNB2 : Hid ((Value.slice A1 N c1).ownBlock ≠ some g) := Lib.hid (by rw [HNf.out]; exact HNB.out)
  have HN2 : Hid (N + bts.size ≤ 140737488355328) := Lib.hid (by omega)
  have HB2 : Hid (B ≤ W.heap.size) := Lib.hid (by omega)
  have d1 : ¬ ((1048576 : Int) < (bts.size : Int) + (N : Int)) := by omega
  clear hv hn q0 q1 q2 hbo hp hG hnb hN HBW _hf o0 o1 o3
  go_enter Try.func34, Try.ntmps34
  go_upto_region 1 with (fail)
  rw [← hW]
  clear hW
  go_wp2_with fail
  go_region_law
    (refine step_append_b rfl (.tmp 46) (.tmp 48) rfl B (.slice A1 N c1) N (N + bts.size) (bcells f) bts (by simp [Act.eval]) HBW2.out (by simp [Act.eval]) rfl HN2.out HB2.out ⟨g, i * 3 + 1, none⟩ r1 zf (show g < W.heap.size by have := hz; omega) HNB2.out ?_
     intro A4 c4 w4 hown4 hk4 hat4 r4 z4)
  all_goals
    have HR : Hid (RetOld M f bts i B (.slice (some ⟨g, 0, none⟩) n c) w (.returned (.tuple #[.slice (some ⟨g, 0, none⟩) n c, .int .i64 0])) (w4.setCell ⟨g, i * 3 + 1, none⟩ (.slice A4 (N + bts.size) c4))) := Lib.hid (by
      refine ⟨(⟨f.name, f.kept, f.loose ++ bts⟩, .slice A4 (N + bts.size) c4), rfl, rfl, ?_, ?_⟩
      · have hd : DR W.drew B (.slice (some ⟨g, 0, none⟩) n c) M := HVW.out.gr (Gr.refl _).drew
        have hk : Kp M[i].2.ownBlock W.drew w4 := by rw [← HP.out, ← HNf.out]; exact hk4
        have hsz : (⟨f.name, f.kept, f.loose ++ bts⟩ : F).size = N + bts.size := by rw [HNf.out]; unfold F.size; dsimp only; rw [append_size']; omega
        refine DR.put hd hi hk ?_ ?_ (Kp.set (Kp.refl _ _) (.inr rfl) _ _) (RO.store (own_kp hd.row hk ?_) hi (r := 1) (by decide) _ _ (by rw [← HP.out]; rfl))
        · show World.ownsRow _ _ _ _ _ _ _
          rw [hsz, ← bcells_more]
          exact hown4
        · rw [← HP.out, ← HNf.out]; exact hat4
        · rw [← HP.out, ← HNf.out]
          exact .inr (fun e => HNB2.out e.symm)
      · exact Below.setCell (Below.trans (Below.mono (Gr.trans HG.out (Gr.refl _).drew) hB) (hk4.below HB2.out (fun x hx => (HBW2.out.lt x hx).1))) (p := ⟨g, i * 3 + 1, none⟩) hBg _)
    clear hown4 hk4 hat4
    go_wp2_with fail
    exact bodyPost_ret (v := .tuple #[.slice (some ⟨g, 0, none⟩) n c, .int .i64 0]) (by simp [results, Try.results34, go_sem]) rfl HR.out
/-- A call's answer: an error. -/
def RetNo (k : Nat) (w : World) (e : Ending) (w' : World) : Prop := e = .returned (.tuple #[.slice none 0 0, .int .i64 (k : Int)]) ∧ Gr w w'
set_option maxRecDepth 100000 in
set_option maxHeartbeats 4000000 in
theorem grow_longold (v : Value) (M : List FB) (kd : Int) (nm bts : ByteArray) (at_ : Int) (B : Nat) (w : World) (hv : DR w B v M) (hf : Fit (files M)) (hbz : bts.size ≤ 281474976710656) (i : Nat) (hi : i < M.length) (hsz : 1048576 < M[i].1.size + bts.size) :
    Calls Try.prog 34 #[v, .int .i64 (i : Int), .agg #[.int .i64 kd, .string nm, .string bts, .int .i64 at_]] w fun e w' => RetNo 2 w e w' := by
  obtain ⟨g, c, rfl⟩ := hv.row.addr hi
  obtain ⟨hnc, hc63, hBg, hgl⟩ := own_len hv.row
  have HV := Lib.hid hv
  obtain ⟨n, hn⟩ : ∃ n, n = M.length := ⟨_, rfl⟩
  rw [← hn] at HV hnc ⊢
  have HN := Lib.hid hn
  obtain ⟨q0, q1, q2⟩ := HV.out.row.at_ hi
  have hbo := HV.out.bytes M[i] (List.getElem_mem hi)
  have hfit := hf _ (List.mem_map_of_mem (f := Prod.fst) (List.getElem_mem hi))
  unfold FitF at hfit
  have hs := hfit.2
  obtain ⟨p, hp⟩ : ∃ p, p = M[i] := ⟨_, rfl⟩
  rw [← hp] at q0 q1 q2 hbo hsz hs
  obtain ⟨f, bv⟩ := p
  obtain ⟨A1, c1, hbv, hb1, hb2⟩ := own_form hbo
  have hbv : bv = .slice A1 f.size c1 := hbv
  subst hbv
  dsimp only at q0 q1 q2 hsz hb1 hs ⊢
  obtain ⟨W, hW, hG, o0, o1, o2, o3, hz⟩ := obox ⟨kd, nm, bts, at_⟩ w
  dsimp only at o0 o1 o2 o3 hW
  have r1 := hG.cell q1
  have HG := Lib.hid hG
  obtain ⟨N, hN⟩ : ∃ N, N = f.size := ⟨_, rfl⟩
  rw [← hN] at r1 hsz hb1 hs
  have e1 : IntKind.i64.wrap ((bts.size : Int) + (N : Int)) = (bts.size : Int) + (N : Int) := IntWalk.i64_in _ ⟨by omega, by omega⟩
  have hil : i < n := by rw [HN.out]; exact hi
  have d1 : (1048576 : Int) < (bts.size : Int) + (N : Int) := by omega
  clear hv hn q0 q1 q2 hbo hp hG hN hf hfit o0 o1 o3
  go_enter Try.func34, Try.ntmps34
  go_upto_region 1 with (fail)
  rw [← hW]
  clear hW
  go_wp2_with fail
  exact bodyPost_ret (v := .tuple #[.slice none 0 0, .int .i64 2]) (by simp [results, Try.results34, go_sem]) rfl ⟨rfl, HG.out⟩
set_option maxRecDepth 100000 in
set_option maxHeartbeats 4000000 in
theorem grow_full (v : Value) (M : List FB) (kd : Int) (nm bts : ByteArray) (at_ : Int) (B : Nat) (w : World) (hv : DR w B v M) (h64 : 64 ≤ M.length) :
    Calls Try.prog 34 #[v, .int .i64 (-1), .agg #[.int .i64 kd, .string nm, .string bts, .int .i64 at_]] w fun e w' => RetNo 4 w e w' := by
  obtain ⟨A, c, rfl, hnc, hc63⟩ := own_form hv.row
  obtain ⟨W, hW, hG, o0, o1, o2, o3, hz⟩ := obox ⟨kd, nm, bts, at_⟩ w
  dsimp only at o0 o1 o2 o3 hW
  have HG := Lib.hid hG
  have d1 : (64 : Int) ≤ (M.length : Int) := by omega
  clear hv hG o0 o1 o3
  go_enter Try.func34, Try.ntmps34
  go_upto_region 1 with (fail)
  rw [← hW]
  clear hW
  go_wp2_with fail
  exact bodyPost_ret (v := .tuple #[.slice none 0 0, .int .i64 4]) (by simp [results, Try.results34, go_sem]) rfl ⟨rfl, HG.out⟩
set_option maxRecDepth 100000 in
set_option maxHeartbeats 4000000 in
theorem grow_longnew (v : Value) (M : List FB) (kd : Int) (nm bts : ByteArray) (at_ : Int) (B : Nat) (w : World) (hv : DR w B v M) (h64 : ¬ 64 ≤ M.length) (hbz : bts.size ≤ 281474976710656) (hsz : 1048576 < bts.size) :
    Calls Try.prog 34 #[v, .int .i64 (-1), .agg #[.int .i64 kd, .string nm, .string bts, .int .i64 at_]] w fun e w' => RetNo 2 w e w' := by
  obtain ⟨A, c, rfl, hnc, hc63⟩ := own_form hv.row
  obtain ⟨W, hW, hG, o0, o1, o2, o3, hz⟩ := obox ⟨kd, nm, bts, at_⟩ w
  dsimp only at o0 o1 o2 o3 hW
  have HG := Lib.hid hG
  have d1 : ¬ (64 : Int) ≤ (M.length : Int) := by omega
  have d2 : (1048576 : Int) < (bts.size : Int) := by omega
  clear hv hG o0 o1 o3
  go_enter Try.func34, Try.ntmps34
  go_upto_region 1 with (fail)
  rw [← hW]
  clear hW
  go_wp2_with fail
  exact bodyPost_ret (v := .tuple #[.slice none 0 0, .int .i64 2]) (by simp [results, Try.results34, go_sem]) rfl ⟨rfl, HG.out⟩
end Go.Proofs.Ytonlplfjiaejhaa
