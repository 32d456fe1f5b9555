/- Walks: a draft less. Walks: a draft more: what is written into a row. Walks: a draft more: in the midst of the row. -/
import Derived.Test.YtlnhbndghnkfmaaGreatDoorZm22
import Derived.Deep.RegionLaw
import Derived.Lib.Overlaps
import Derived.Lib.AppendZerosOnto
import Derived.Lib.JoinLaws
namespace Go.Proofs.YtlnhbndghnkfmaaGreatDoor
open Go.RowKit

set_option maxRecDepth 100000 in
theorem elemDraft : Tryz.prog.underlying 192 = some (.slice (Tryz.prog.elem 192)) ∧ Tryz.prog.elem 192 = 202 := ⟨by kernel_rfl, by kernel_rfl⟩
set_option maxRecDepth 100000 in
theorem sizeDraft : ∀ W : World, (sizeOf 202).run Tryz.prog W = .ok 3 W := fun W => by kernel_rfl
set_option maxRecDepth 100000 in
theorem dslice_from (n c k : Nat) (hk : k ≤ n) (A : Option Addr) : ∀ W : World, (Instr.slice 192 (.slice A n c) (some (.int .i64 (k : Int))) none none).run Tryz.prog W = .ok (sliced A k n c 3) W := by
  intro W
  rw [run_slice_l W _ A n c elemDraft.1 .i64 (k : Int) (by omega) (by omega), elemDraft.2, sizeDraft]
  rfl
set_option maxRecDepth 100000 in
theorem dslice_to (n c k : Nat) (hk : k ≤ c) (A : Option Addr) : ∀ W : World, (Instr.slice 192 (.slice A n c) none (some (.int .i64 (k : Int))) none).run Tryz.prog W = .ok (.slice A k c) W := by
  intro W
  rw [run_slice_h W _ A n c elemDraft.1 .i64 (k : Int) (by omega) (by omega), elemDraft.2, sizeDraft]
  show Result.ok (sliced A 0 (k : Int).toNat c 3) W = _
  unfold sliced
  rw [Int.toNat_natCast]
  cases A with
  | none => simp
  | some a => simp [Addr.add]
set_option maxRecDepth 100000 in
theorem dslice_at (n c k : Nat) (hk : k < c) (g : Nat) : ∀ W : World, (Instr.slice 192 (.slice (some ⟨g, 0, none⟩) n c) (some (.int .i64 (k : Int))) (some (.int .i64 ((k : Int) + 1))) none).run Tryz.prog W = .ok (.slice (some ⟨g, k * 3, none⟩) 1 (c - k)) W := by
  intro W
  rw [run_slice_lh W _ (some ⟨g, 0, none⟩) n c elemDraft.1 .i64 .i64 (k : Int) ((k : Int) + 1) (by omega) (by omega) (by omega), elemDraft.2, sizeDraft]
  show Result.ok (sliced (some ⟨g, 0, none⟩) (k : Int).toNat ((k : Int) + 1).toNat c 3) W = _
  unfold sliced
  rw [Int.toNat_natCast, show ((k : Int) + 1).toNat = k + 1 by omega, if_neg (by omega), show k + 1 - k = 1 by omega]
  congr 2
  show some ((⟨g, 0, none⟩ : Addr).add (k * 3)) = _
  rw [Go.WideShapes.add_plain, Nat.zero_add]
set_option maxRecDepth 100000 in
theorem own_beyond {w : World} {B : Nat} {t : TypeId} {size g n c : Nat} {xs : List Value} (h : w.ownsRow B t size (.slice (some ⟨g, 0, none⟩) n c) n xs) {j : Nat} (hj : n * size ≤ j) (u : Value) : (w.setCell ⟨g, j, none⟩ u).ownsRow B t size (.slice (some ⟨g, 0, none⟩) n c) n xs := by
  have h1 := (h.stored j u).1
  rw [List.set_eq_of_length_le (by rw [h.1]; exact hj)] at h1
  exact h1
set_option maxRecDepth 100000 in
theorem own_some {w : World} {B : Nat} {t : TypeId} {size g n c : Nat} {xs : List Value} (h : w.ownsRow B t size (.slice (some ⟨g, 0, none⟩) n c) n xs) {j : Nat} (hj : j < c * size) : (∃ u, w.cell? ⟨g, j, none⟩ = some u) ∧ w.frozen? ⟨g, j, none⟩ = false := by
  refine ⟨?_, h.frozenAt j⟩
  rcases h.2 with ⟨hh, _⟩ | ⟨g', cap', cur, hh, hb, hg, hn, hm, hcs, _⟩
  · cases hh
  · injection hh with h1 h2 h3
    injection h1 with h1
    injection h1 with h1
    subst h1 h3
    rw [cell_of_row w g j cur t (0, 0) hg]
    exact ⟨_, Array.getElem?_eq_getElem (by omega)⟩
set_option maxRecDepth 100000 in
theorem run_clear_draft (w : World) (g off cc : Nat) {a b d : Value} (h0 : w.cell? ⟨g, off, none⟩ = some a) (h1 : w.cell? ⟨g, off + 1, none⟩ = some b) (h2 : w.cell? ⟨g, off + 2, none⟩ = some d) (z0 : w.frozen? ⟨g, off, none⟩ = false) (z1 : w.frozen? ⟨g, off + 1, none⟩ = false) (z2 : w.frozen? ⟨g, off + 2, none⟩ = false) (ty : TypeId) :
    (Builtin.clear_ #[192] ty #[.slice (some ⟨g, off, none⟩) 1 cc]).run Tryz.prog w = .ok (.tuple #[]) (w.setCells g off [.string ⟨#[]⟩, .slice none 0 0, .int .i64 0]) := by
  obtain ⟨i0, hi, hz0, hz1, hz2⟩ := info_parts infoDraft
  have hst := run_storeCells_cells (P := Tryz.prog) g off [.string ⟨#[]⟩, .slice none 0 0, .int .i64 0] 0 w
    (fun j hj => by
      match j, hj with
      | 0, _ => show (w.cell? ⟨g, off + 0 + 0, none⟩).isSome = true; rw [show off + 0 + 0 = off by omega, h0]; rfl
      | 1, _ => show (w.cell? ⟨g, off + 0 + 1, none⟩).isSome = true; rw [show off + 0 + 1 = off + 1 by omega, h1]; rfl
      | 2, _ => show (w.cell? ⟨g, off + 0 + 2, none⟩).isSome = true; rw [show off + 0 + 2 = off + 2 by omega, h2]; rfl)
    (fun j hj => by
      match j, hj with
      | 0, _ => show w.frozen? ⟨g, off + 0 + 0, none⟩ = false; rw [show off + 0 + 0 = off by omega, z0]
      | 1, _ => show w.frozen? ⟨g, off + 0 + 1, none⟩ = false; rw [show off + 0 + 1 = off + 1 by omega, z1]
      | 2, _ => show w.frozen? ⟨g, off + 0 + 2, none⟩ = false; rw [show off + 0 + 2 = off + 2 by omega, z2])
    (fun v hv => by
      simp only [List.mem_cons, List.not_mem_nil, or_false] at hv
      rcases hv with rfl | rfl | rfl <;> rfl)
  simp only [Nat.add_zero] at hst
  have hzv : ∀ w, (zeroValue 202).run Tryz.prog w = .ok (.agg #[.string ⟨#[]⟩, .slice none 0 0, .int .i64 0]) w := fun w => by
    simp [zeroValue, typeInfo, hi, hz0]
  have hzc : (Builtin.zeroCells (Value.agg #[.string ⟨#[]⟩, .slice none 0 0, .int .i64 0]).cells 1).toList = [.string ⟨#[]⟩, .slice none 0 0, .int .i64 0] := by kernel_rfl
  have hu : (underlying 192).run Tryz.prog w = .ok (.slice 202) w := run_underlying Tryz.underlying192 w
  simp [Builtin.clear_, hu, hzv, hzc, hst]
set_option maxRecDepth 100000 in
/-- An append for which there is room: it stays in its block. -/
theorem step_append_in {ops : Array Oper} {o : Oper} {a : Act} {W : World} {K : Act → World → Prop} {Q : Exit → Act → World → Prop} {E : Prop} (hgd : o.guard = none) (s x : Operand)
    (ho : o.op = .call { callee := .builtin .append, args := #[s, x], argTypes := #[192, 192] }) (B g n cap m N : Nat) (xs : List Value) (hs : a.eval s = .slice (some ⟨g, 0, none⟩) n cap)
    (hown : W.ownsRow B 202 3 (.slice (some ⟨g, 0, none⟩) n cap) n xs) (ad : Addr) (c : Nat) (news : List Value) (hx : a.eval x = .slice (some ad) m c) (hsl : SL W 3 (.slice (some ad) m c) m news) (h1 : ∀ u ∈ news, u.oneCell' = true) (hN : n + m = N) (hroom : N ≤ cap)
    (h : ∀ w', w'.ownsRow B 202 3 (.slice (some ⟨g, 0, none⟩) N cap) N (xs ++ news) → Kp (some g) W w' → K (a.put o.dst (.slice (some ⟨g, 0, none⟩) N cap)) w') :
    if Region.wanted o (yielded ops a.tmps) = true then Oper.wp Tryz.prog o a W K Q else E := by
  obtain ⟨i0, hi, hz0, hz1, hz2⟩ := info_parts infoDraft
  have hw : Region.wanted o (yielded ops a.tmps) = true := by simp [Region.wanted, hgd]
  rw [if_pos hw]
  subst hN
  obtain ⟨A', c', hv, _, _, hl, hc⟩ := hsl
  injection hv with e1 e2 e3
  obtain ⟨w', hr, h2, h3⟩ := run_append_fits (P := Tryz.prog) W B 192 o.type 202 i0 3 Tryz.underlying192 hi hz1 g n cap xs hown ad m c news hl (fun j u hj => by
    obtain ⟨b, off, ha, hcc⟩ := hc j u hj
    rw [← e1] at ha
    injection ha with ha
    rw [ha, Go.WideShapes.add_plain]
    exact hcc) h1 hroom
  unfold Oper.wp execOp
  simp only [ho, resolve, invoke, builtin, Sem.run_bind, Sem.run_pure, Result.andThen_ok, List.map_toArray, List.map_cons, List.map_nil, hs, hx, hr]
  exact h w' h2 h3
set_option maxRecDepth 100000 in
theorem dcells_erase (M : List FB) (i : Nat) : dcells (M.eraseIdx i) = (dcells M).take (i * 3) ++ (dcells M).drop ((i + 1) * 3) := by
  rw [List.eraseIdx_eq_take_drop_succ]
  unfold dcells
  rw [rows_take dcell 3 dcell_len, rows_drop dcell 3 dcell_len, List.flatMap_append]
set_option maxRecDepth 100000 in
theorem dcells_one {w : World} {B : Nat} {M : List FB} (h : ∀ p ∈ M, BO w B p) : ∀ u ∈ dcells M, u.oneCell' = true := by
  intro u hu
  obtain ⟨p, hp, hu⟩ := List.mem_flatMap.1 hu
  obtain ⟨A, c, hv, _⟩ := own_form (h p hp)
  unfold dcell at hu
  rw [hv] at hu
  simp only [List.mem_cons, List.not_mem_nil, or_false] at hu
  rcases hu with rfl | rfl | rfl <;> rfl
/-- A call's answer: one draft less, in the same block. -/
def RetDel (M : List FB) (B i : Nat) (v : Value) (w : World) (e : Ending) (w' : World) : Prop := ∃ v', e = .returned v' ∧ RO w' B v' (M.eraseIdx i) ∧ v'.ownBlock = v.ownBlock ∧ Kp v.ownBlock w w'

set_option maxRecDepth 100000 in
set_option maxHeartbeats 4000000 in
theorem delete_any (v : Value) (M : List FB) (B i : Nat) (w : World) (hv : DR w B v M) (hi : i < M.length) :
    Calls Tryz.prog 184 #[v, .int .i64 (i : Int), .int .i64 ((i : Int) + 1)] w fun e w' => RetDel M B i v w e w' := by
  obtain ⟨g, c, rfl⟩ := hv.row.addr hi
  obtain ⟨hnc, hc63, _, hgl⟩ := own_len hv.row
  have HONE := Lib.hid (dcells_one hv.bytes)
  have HR : Hid (w.ownsRow B 202 3 (.slice (some ⟨g, 0, none⟩) M.length c) M.length (dcells M)) := Lib.hid hv.row
  clear hv
  obtain ⟨m, hm⟩ : ∃ m, M.length = m + 1 := ⟨M.length - 1, by omega⟩
  rw [hm] at HR hnc hi ⊢
  have HM := Lib.hid hm
  clear hm
  obtain ⟨S, hS⟩ : ∃ S, S = sliced (some ⟨g, 0, none⟩) (i + 1) (m + 1) c 3 := ⟨_, rfl⟩
  obtain ⟨ad, hSa⟩ : ∃ ad, S = .slice (some ad) (m - i) (c - (i + 1)) := by
    rw [hS]
    unfold sliced
    rw [show m + 1 - (i + 1) = m - i by omega]
    split
    · exact ⟨_, rfl⟩
    · exact ⟨_, rfl⟩
  have HSD : Hid (SL w 3 S (m - i) ((dcells M).drop ((i + 1) * 3))) := by
    have h := SL.drop (own_sl HR.out) (k := i + 1) (by omega)
    rw [show m + 1 - (i + 1) = m - i by omega, ← hS] at h
    exact h
  have hsl := dslice_from (m + 1) c (i + 1) (by omega) (some ⟨g, 0, none⟩)
  rw [← hS, hSa, show (((i + 1 : Nat) : Int)) = (i : Int) + 1 by omega] at hsl
  rw [hSa] at HSD
  clear hS hSa
  have hsl0 := dslice_to (m + 1) c i (by omega) (some ⟨g, 0, none⟩)
  have hsl1 := dslice_at m c m (by omega) g
  have HOP : Hid (w.ownsRow B 202 3 (.slice (some ⟨g, 0, none⟩) i c) i ((dcells M).take (i * 3))) := Lib.hid (own_prefix HR.out (by omega))
  have HON : Hid (∀ u ∈ (dcells M).drop ((i + 1) * 3), u.oneCell' = true) := Lib.hid (fun u hu => HONE.out u (List.mem_of_mem_drop hu))
  have HN3 : Hid (i + (m - i) = m) := Lib.hid (by omega)
  have HC3 : Hid (m ≤ c) := Lib.hid (by omega)
  have hne : ¬ ((i : Int) = (i : Int) + 1) := by omega
  have hlhm : ∃ u, ∀ W, (Instr.slice 192 (.slice (some ⟨g, 0, none⟩) (m + 1) c) (some (.int .i64 (i : Int))) (some (.int .i64 ((i : Int) + 1))) (some (.int .i64 ((m : Int) + 1)))).run Tryz.prog W = .ok u W := by
    refine ⟨sliced (some ⟨g, 0, none⟩) (i : Int).toNat ((i : Int) + 1).toNat ((m : Int) + 1).toNat 3, fun W => ?_⟩
    rw [run_slice_lhm W _ (some ⟨g, 0, none⟩) (m + 1) c elemDraft.1 .i64 .i64 .i64 (i : Int) ((i : Int) + 1) ((m : Int) + 1) (by omega) (by omega) (by omega) (by omega), elemDraft.2, sizeDraft]
    rfl
  obtain ⟨u1, hlhm⟩ := hlhm
  go_enter Tryz.func184, Tryz.ntmps184
  go_wp2_with fail
  go_region_law
    (refine step_append_in rfl (.tmp 22) (.tmp 25) rfl B g i c (m - i) m _ (by simp [Act.eval, Act.put]) HOP.out ad (c - (i + 1)) _ (by simp [Act.eval, Act.put]) HSD.out HON.out HN3.out HC3.out ?_
     intro w4 hown4 hgr4)
  all_goals
    have HO4 := Lib.hid hown4
    have HG4 := Lib.hid hgr4
    obtain ⟨⟨x0, y0⟩, z0⟩ := own_some HO4.out (j := m * 3) (by omega)
    obtain ⟨⟨x1, y1⟩, z1⟩ := own_some HO4.out (j := m * 3 + 1) (by omega)
    obtain ⟨⟨x2, y2⟩, z2⟩ := own_some HO4.out (j := m * 3 + 2) (by omega)
    have HCL := Lib.hid (run_clear_draft w4 g (m * 3) (c - m) y0 y1 y2 z0 z1 z2)
    obtain ⟨w5, hw5, hown5, hgr5⟩ : ∃ w5, w5 = w4.setCells g (m * 3) [.string ⟨#[]⟩, .slice none 0 0, .int .i64 0] ∧ w5.ownsRow B 202 3 (.slice (some ⟨g, 0, none⟩) m c) m ((dcells M).take (i * 3) ++ (dcells M).drop ((i + 1) * 3)) ∧ Kp (some g) w w5 := by
      refine ⟨_, rfl, ?_, ?_⟩
      · exact own_beyond (own_beyond (own_beyond HO4.out (by omega) _) (by omega) _) (by omega) _
      · exact Kp.set (Kp.set (Kp.set (Kp.trans (Kp.of_gr (Gr.refl _).drew) HG4.out) (.inr rfl) _ _) (.inr rfl) _ _) (.inr rfl) _ _
    rw [← hw5] at HCL
    have HO5 := Lib.hid hown5
    have HG5 := Lib.hid hgr5
    clear hown4 hgr4 y0 y1 y2 z0 z1 z2 hown5 hgr5 hw5 hsl hsl0 hlhm
    have hcl := HCL.out 0
    go_wp2_with fail
    go_ret
    refine ⟨_, rfl, ?_, rfl, HG5.out⟩
    show World.ownsRow _ _ _ _ _ _ _
    rw [dcells_erase, List.length_eraseIdx_of_lt (by rw [HM.out]; exact hi), HM.out]
    exact HO5.out
end Go.Proofs.YtlnhbndghnkfmaaGreatDoor
namespace Go.Proofs.YtlnhbndghnkfmaaGreatDoor
open Go.RowKit

/-- These cells written over xs from o on. -/
def over (xs : List Value) (o : Nat) (cs : List Value) : List Value := xs.take o ++ cs ++ xs.drop (o + cs.length)
set_option maxRecDepth 100000 in
theorem over_cons (xs : List Value) (o : Nat) (u : Value) (r : List Value) (h : o < xs.length) : over (xs.set o u) (o + 1) r = over xs o (u :: r) := by
  unfold over
  rw [List.set_eq_take_append_cons_drop, if_pos h]
  have ht : (xs.take o).length = o := by rw [List.length_take]; omega
  have e1 : (List.take o xs ++ u :: List.drop (o + 1) xs).take (o + 1) = List.take o xs ++ [u] := by
    rw [List.take_append, ht, List.take_of_length_le (by omega), show o + 1 - o = 1 by omega]
    rfl
  have e2 : (List.take o xs ++ u :: List.drop (o + 1) xs).drop (o + 1 + r.length) = xs.drop (o + (r.length + 1)) := by
    rw [List.drop_append, ht, List.drop_of_length_le (by omega), show o + 1 + r.length - o = r.length + 1 by omega, List.drop_succ_cons, List.drop_drop, List.nil_append]
    congr 1
    omega
  rw [e1, e2, List.length_cons]
  simp
set_option maxRecDepth 100000 in
theorem own_setCells {B : Nat} {t : TypeId} {size g n c : Nat} : ∀ (cs : List Value) (o : Nat) (w : World) (xs : List Value), w.ownsRow B t size (.slice (some ⟨g, 0, none⟩) n c) n xs → o + cs.length ≤ xs.length →
    (w.setCells g o cs).ownsRow B t size (.slice (some ⟨g, 0, none⟩) n c) n (over xs o cs) ∧ Kp (some g) w (w.setCells g o cs)
  | [], o, w, xs, h, _ => by
    refine ⟨?_, Kp.refl _ _⟩
    unfold over
    rw [List.length_nil, Nat.add_zero, List.append_nil, List.take_append_drop]
    exact h
  | u :: r, o, w, xs, h, hl => by
    rw [List.length_cons] at hl
    obtain ⟨h1, h2⟩ := h.stored o u
    obtain ⟨h3, h4⟩ := own_setCells r (o + 1) _ _ h1 (by rw [List.length_set]; omega)
    rw [over_cons xs o u r (by omega)] at h3
    exact ⟨h3, Kp.trans h2 h4⟩
set_option maxRecDepth 100000 in
/-- Room for one element more: it is there already. -/
theorem own_more {w : World} {B : Nat} {t : TypeId} {size g n c : Nat} {xs : List Value} (h : w.ownsRow B t size (.slice (some ⟨g, 0, none⟩) n c) n xs) (hc : n + 1 ≤ c) : ∃ ys, ys.length = size ∧ w.ownsRow B t size (.slice (some ⟨g, 0, none⟩) (n + 1) c) (n + 1) (xs ++ ys) := by
  have hl := h.1
  rcases h.2 with ⟨hh, _⟩ | ⟨g', cap, cur, hh, hb, hg, hn, hm, hcs, ht⟩
  · cases hh
  · injection hh with e1 e2 e3
    injection e1 with e1
    injection e1 with e1
    subst e1 e3
    have hmul : (n + 1) * size ≤ c * size := Nat.mul_le_mul_right _ hc
    rw [Nat.add_mul, Nat.one_mul] at hmul
    have hs : cur.toList.length = c * size := by rw [Array.length_toList]; exact hcs
    refine ⟨(cur.toList.drop (n * size)).take size, by rw [List.length_take, List.length_drop, hs]; omega, ?_, .inr ⟨g, c, cur, rfl, hb, hg, hc, hm, hcs, ?_⟩⟩
    · rw [List.length_append, hl, List.length_take, List.length_drop, hs, Nat.add_mul, Nat.one_mul]; omega
    · rw [Nat.add_mul, Nat.one_mul, List.take_add, ht]
set_option maxRecDepth 100000 in
theorem run_copy_draft (w : World) (ty : TypeId) (b o dLen dCap : Nat) (a : Addr) (sLen sCap : Nat) (cs : List Value) (hn : cs.length = Nat.min sLen dLen * 3)
    (hsrc : ∀ j v, cs[j]? = some v → w.cell? (a.add j) = some v) (hc : ∀ j, j < cs.length → (w.cell? ⟨b, o + j, none⟩).isSome = true) (hf : ∀ j, j < cs.length → w.frozen? ⟨b, o + j, none⟩ = false) (h1 : ∀ v ∈ cs, v.oneCell' = true) :
    ∃ u, (Builtin.copy_ #[192, 192] ty #[.slice (some ⟨b, o, none⟩) dLen dCap, .slice (some a) sLen sCap]).run Tryz.prog w = .ok u (w.setCells b o cs) := by
  obtain ⟨i0, hi, hz0, hz1, hz2⟩ := info_parts infoDraft
  have hl := run_loadCells_list (P := Tryz.prog) w a cs hsrc
  have hst := run_storeCells_cells (P := Tryz.prog) b o cs 0 w (by simpa using hc) (by simpa using hf) h1
  refine ⟨goInt (Nat.min sLen dLen), ?_⟩
  simp [Builtin.copy_, run_underlying Tryz.underlying192, Builtin.lenOf, Builtin.firstCells, sizeOf, typeInfo, hi, hz1, ← hn, hl, hst]
/-- A draft of an empty file. -/
def nz (nm : ByteArray) : FB := (newF nm, .slice none 0 0)
set_option maxRecDepth 100000 in
theorem dcells_insert (M : List FB) (i : Nat) (p : FB) (h : i ≤ M.length) : dcells (M.insertIdx i p) = (dcells M).take (i * 3) ++ (dcell p ++ (dcells M).drop (i * 3)) := by
  have e : M.insertIdx i p = M.take i ++ (p :: M.drop i) := by
    induction M generalizing i with
    | nil => obtain rfl : i = 0 := by simpa using h
             rfl
    | cons a M ih =>
      cases i with
      | zero => rfl
      | succ i => rw [List.insertIdx_succ_cons, ih i (by simpa using h)]; rfl
  rw [e]
  unfold dcells
  rw [rows_take dcell 3 dcell_len, rows_drop dcell 3 dcell_len, List.flatMap_append, List.flatMap_cons]
set_option maxRecDepth 100000 in
theorem nz_one (nm : ByteArray) : ∀ u ∈ dcell (nz nm), u.oneCell' = true := by
  intro u hu
  unfold dcell nz at hu
  simp only [List.mem_cons, List.not_mem_nil, or_false] at hu
  rcases hu with rfl | rfl | rfl <;> rfl
set_option maxRecDepth 100000 in
theorem own_shape {w : World} {B : Nat} {t : TypeId} {size g n c : Nat} {xs : List Value} (h : w.ownsRow B t size (.slice (some ⟨g, 0, none⟩) n c) n xs) : w.shape? g = some (t, c * size) := by
  rcases h.2 with ⟨hh, _⟩ | ⟨g', cap, cur, hh, hb, hg, hn, hm, hcs, ht⟩
  · cases hh
  · injection hh with e1 e2 e3
    injection e1 with e1
    injection e1 with e1
    subst e1 e3
    unfold World.shape?
    rw [hg, ← hcs]
/-- A call's answer: one draft more. -/
def RetIns (M : List FB) (B i : Nat) (nm : ByteArray) (v : Value) (w : World) (e : Ending) (w' : World) : Prop :=
  ∃ v', e = .returned v' ∧ RO w' B v' (M.insertIdx i (nz nm)) ∧ (v'.ownBlock = v.ownBlock ∨ ∃ g, v'.ownBlock = some g ∧ w.heap.size ≤ g) ∧ Kp v.ownBlock w w'

set_option maxRecDepth 100000 in
set_option maxHeartbeats 4000000 in
theorem insert_end (v : Value) (M : List FB) (B vb Bv : Nat) (nm : ByteArray) (w : World) (hv : DR w B v M) (hB : B ≤ w.heap.size) (hlen : (M.length + 1) * 48 ≤ 140737488355328)
    (hx : w.ownsRow Bv 202 3 (.slice (some ⟨vb, 0, none⟩) 1 1) 1 (dcell (nz nm))) :
    Calls Tryz.prog 190 #[v, .int .i64 (M.length : Int), .slice (some ⟨vb, 0, none⟩) 1 1] w fun e w' => RetIns M B M.length nm v w e w' := by
  obtain ⟨i0, hi, hz0, hz1, hz2⟩ := info_parts infoDraft
  have HR : Hid (w.ownsRow B 202 3 v M.length (dcells M)) := Lib.hid hv.row
  obtain ⟨A, c, rfl, hnc, hc63⟩ := own_form hv.row
  have HX := Lib.hid (own_sl hx)
  clear hv hx
  have hN : dcells M ++ dcell (nz nm) = dcells (M.insertIdx M.length (nz nm)) := by
    rw [dcells_insert M M.length _ (Nat.le_refl _), List.take_of_length_le (by rw [dcells_len]; exact Nat.le_refl _), List.drop_of_length_le (by rw [dcells_len]; exact Nat.le_refl _), List.append_nil]
  have HN := Lib.hid hN
  have HL : Hid ((M.insertIdx M.length (nz nm)).length = M.length + 1) := Lib.hid (by rw [List.length_insertIdx, if_pos (Nat.le_refl _)])
  clear hN
  obtain ⟨n, hn⟩ : ∃ n, n = M.length := ⟨_, rfl⟩
  rw [← hn] at HR HN HL hlen hnc ⊢
  clear hn
  have hsf : ∃ u, ∀ W, (Instr.slice 192 (.slice A n c) (some (.int .i64 (n : Int))) none none).run Tryz.prog W = .ok u W := ⟨_, dslice_from n c n (Nat.le_refl _) A⟩
  obtain ⟨u1, hsf⟩ := hsf
  have h63 : n + 1 ≤ maxLen := by unfold maxLen; omega
  go_enter Tryz.func190, Tryz.ntmps190
  go_wp2_with (at_builtin; refine wpList_append_sl _ rfl _ _ 192 rfl B 202 i0 _ 3 48 Tryz.underlying192 hi hz0 hz1 hz2 rfl (by decide) (.slice A n c) n _ rfl HR.out (.slice (some ⟨vb, 0, none⟩) 1 1) 1 _ rfl HX.out (nz_one nm) h63 hlen hB (n + 1) rfl ?_; intro A' c' w' hown' hgr hat)
  go_ret
  refine ⟨_, rfl, ?_, ?_, hgr⟩
  · show World.ownsRow _ _ _ _ _ _ _
    rw [HL.out, ← HN.out]
    exact hown'
  · rcases hat with h | h
    · exact .inl h
    · exact .inr ⟨_, h, Nat.le_refl _⟩
end Go.Proofs.YtlnhbndghnkfmaaGreatDoor
namespace Go.Proofs.YtlnhbndghnkfmaaGreatDoor
open Go.RowKit

set_option maxRecDepth 100000 in
theorem over_len (xs : List Value) (o : Nat) (cs : List Value) (h : o + cs.length ≤ xs.length) : (over xs o cs).length = xs.length := by
  unfold over
  rw [List.length_append, List.length_append, List.length_take, List.length_drop]
  omega
set_option maxRecDepth 100000 in
theorem over_shift (E D z : List Value) (n i : Nat) (hE : E.length = (n + 1) * 3) (hD : D.length = n * 3) (hi : i ≤ n) (ht : E.take (i * 3) = D.take (i * 3)) (hz : z.length = 3) :
    over (over E ((i + 1) * 3) (D.drop (i * 3))) (i * 3) z = D.take (i * 3) ++ (z ++ D.drop (i * 3)) := by
  have hl : (D.drop (i * 3)).length = (n - i) * 3 := by rw [List.length_drop, hD]; omega
  have h1 : over E ((i + 1) * 3) (D.drop (i * 3)) = E.take ((i + 1) * 3) ++ D.drop (i * 3) := by
    unfold over
    rw [hl, List.drop_of_length_le (l := E) (by rw [hE]; omega), List.append_nil]
  have htl : (E.take ((i + 1) * 3)).length = (i + 1) * 3 := by rw [List.length_take, hE]; omega
  rw [h1]
  unfold over
  rw [List.take_append_of_le_length (by omega), List.take_take, Nat.min_eq_left (by omega), ht, List.append_assoc, hz, List.drop_append, htl, List.drop_of_length_le (by omega), List.nil_append, show i * 3 + 3 - (i + 1) * 3 = 0 by omega, List.drop_zero]
set_option maxRecDepth 100000 in
theorem over_grow (E D z : List Value) (n i : Nat) (hE : E.length = (n + 1) * 3) (hD : D.length = n * 3) (hi : i ≤ n) (ht : E.take (i * 3) = D.take (i * 3)) (hz : z.length = 3) :
    over (over E (i * 3) z) ((i + 1) * 3) (D.drop (i * 3)) = D.take (i * 3) ++ (z ++ D.drop (i * 3)) := by
  have hl : (D.drop (i * 3)).length = (n - i) * 3 := by rw [List.length_drop, hD]; omega
  have hol : (over E (i * 3) z).length = (n + 1) * 3 := by rw [over_len E _ z (by omega), hE]
  have h1 : over (over E (i * 3) z) ((i + 1) * 3) (D.drop (i * 3)) = (over E (i * 3) z).take ((i + 1) * 3) ++ D.drop (i * 3) := by
    show (over E (i * 3) z).take ((i + 1) * 3) ++ D.drop (i * 3) ++ (over E (i * 3) z).drop ((i + 1) * 3 + (D.drop (i * 3)).length) = _
    rw [hl, List.drop_of_length_le (l := over E (i * 3) z) (by rw [hol]; omega), List.append_nil]
  rw [h1]
  unfold over
  rw [ht]
  have htl : (D.take (i * 3) ++ z).length = (i + 1) * 3 := by rw [List.length_append, List.length_take, hD, hz]; omega
  rw [List.take_append_of_le_length (by omega), List.take_of_length_le (by omega), List.append_assoc]
set_option maxRecDepth 100000 in
theorem dslice_mid (n c k g : Nat) (hk : k ≤ n) (hc : k < c) : ∀ W : World, (Instr.slice 192 (.slice (some ⟨g, 0, none⟩) n c) (some (.int .i64 (k : Int))) none none).run Tryz.prog W = .ok (.slice (some ⟨g, k * 3, none⟩) (n - k) (c - k)) W := by
  intro W
  rw [dslice_from n c k hk (some ⟨g, 0, none⟩) W]
  unfold sliced
  rw [if_neg (by omega)]
  congr 2
  show some ((⟨g, 0, none⟩ : Addr).add (k * 3)) = _
  rw [Go.WideShapes.add_plain, Nat.zero_add]
set_option maxRecDepth 100000 in
theorem step_copy_run {ops : Array Oper} {o : Oper} {a : Act} {w : World} {K : Act → World → Prop} {Q : Exit → Act → World → Prop} {E : Prop}
    (hg : o.guard = none) (d x : Operand) (hop : o.op = Op.call { callee := Callee.builtin Builtin.copy, args := #[d, x], argTypes := #[192, 192] })
    (v u : Value) (hd : a.eval d = v) (hx : a.eval x = u) {v' : Value} {w' : World} (hr : (Builtin.copy_ #[192, 192] o.type #[v, u]).run Tryz.prog w = .ok v' w') (hK : K (a.put o.dst v') w') :
    if Region.wanted o (yielded ops a.tmps) = true then Oper.wp Tryz.prog o a w K Q else E := by
  have hw : Region.wanted o (yielded ops a.tmps) = true := by simp [Region.wanted, hg]
  rw [if_pos hw]
  unfold Oper.wp
  simp [execOp, hop, resolve, invoke, builtin, hd, hx, hr, Result.andThen]
  exact hK
set_option maxRecDepth 100000 in
theorem apart (vb b : Nat) (hne : vb ≠ b) (w : World) (tA tB : TypeId) (kA kB : Nat) (hsa : w.shape? vb = some (tA, kA)) (hsb : w.shape? b = some (tB, kB)) (hkB : kB ≠ 0) (hfa : ∀ j, w.frozen? ⟨vb, j, none⟩ = false) (o m vc lb cb : Nat) :
    (callFunc 191 #[.slice (some ⟨vb, 0, none⟩) m vc, .slice (some ⟨b, o, none⟩) lb cb]).run Tryz.prog w = .ok (.value (.bool false)) w := by
  rw [run_callFunc_extern Tryz.func191 (by kernel_rfl) (by kernel_rfl) (by kernel_rfl) (e := Extern.SlicesOverlaps.overlaps #[192, 192] #[4]) (by kernel_rfl),
    Lib.run_overlaps_apart w 192 4 202 Tryz.underlying192 3 sizeDraft ⟨vb, 0, none⟩ ⟨b, o, none⟩ m vc lb cb hne tA tB kA kB hsa hsb hkB (hfa 0) (hfa kA)]
  rfl

set_option maxRecDepth 100000 in
set_option maxHeartbeats 4000000 in
theorem insert_shift (v : Value) (M : List FB) (B i vb Bv : Nat) (nm : ByteArray) (w : World) (hv : DR w B v M) (hi : i < M.length) (hroom : ∀ A n c, v = .slice A n c → n + 1 ≤ c) (hvb : v.ownBlock ≠ some vb)
    (hx : w.ownsRow Bv 202 3 (.slice (some ⟨vb, 0, none⟩) 1 1) 1 (dcell (nz nm))) :
    Calls Tryz.prog 190 #[v, .int .i64 (i : Int), .slice (some ⟨vb, 0, none⟩) 1 1] w fun e w' => RetIns M B i nm v w e w' := by
  obtain ⟨g, c, rfl⟩ := hv.row.addr hi
  have hrm := hroom _ _ _ rfl
  obtain ⟨hnc, hc63, _, hgl⟩ := own_len hv.row
  have hne : vb ≠ g := fun e => hvb (by rw [e]; rfl)
  have HONE := Lib.hid (dcells_one hv.bytes)
  obtain ⟨D, hD⟩ : ∃ D, D = dcells M := ⟨_, rfl⟩
  have hDl : D.length = M.length * 3 := by rw [hD, dcells_len]
  have HI : Hid (dcells (M.insertIdx i (nz nm)) = D.take (i * 3) ++ (dcell (nz nm) ++ D.drop (i * 3))) := Lib.hid (by rw [hD]; exact dcells_insert M i _ (by omega))
  have HL : Hid ((M.insertIdx i (nz nm)).length = M.length + 1) := Lib.hid (by rw [List.length_insertIdx, if_pos (by omega)])
  have HR : Hid (w.ownsRow B 202 3 (.slice (some ⟨g, 0, none⟩) M.length c) M.length D) := Lib.hid (by rw [hD]; exact hv.row)
  rw [← hD] at HONE
  clear hv hD hroom
  obtain ⟨n, hn⟩ : ∃ n, n = M.length := ⟨_, rfl⟩
  rw [← hn] at HR HL hnc hi hDl hrm ⊢
  clear hn
  obtain ⟨ys, hys, h1⟩ := own_more HR.out hrm
  have h1d := own_gr h1 (Gr.refl _).drew
  have hxd := own_gr hx (Gr.refl _).drew
  have hEl : (D ++ ys).length = (n + 1) * 3 := by rw [List.length_append, hDl, hys]; omega
  have hdl : (D.drop (i * 3)).length = (n - i) * 3 := by rw [List.length_drop, hDl]; omega
  obtain ⟨u1, hcp1⟩ := run_copy_draft w.drew 3 g ((i + 1) * 3) (n - i) (c - (i + 1)) ⟨g, i * 3, none⟩ (n + 1 - i) (c - i) (D.drop (i * 3)) (by rw [hdl]; simp only [Nat.min_def]; split <;> omega)
    (fun j u hj => by
      rw [Go.WideShapes.add_plain]
      show w.drew.cell? ⟨g, i * 3 + j, none⟩ = some u
      rw [List.getElem?_drop] at hj
      have hjl : i * 3 + j < D.length := (List.getElem?_eq_some_iff.1 hj).1
      rw [h1d.cellAt (i * 3 + j) (by omega), List.getElem?_append_left hjl]
      exact hj)
    (fun j hj => by rw [hdl] at hj; rw [h1d.cellAt _ (by omega), List.getElem?_eq_getElem (by omega)]; rfl)
    (fun j _ => h1d.frozenAt _) (fun u hu => HONE.out u (List.mem_of_mem_drop hu))
  obtain ⟨h5, k5⟩ := own_setCells (D.drop (i * 3)) ((i + 1) * 3) w.drew _ h1d (by rw [hdl, hEl]; omega)
  obtain ⟨w5, hw5⟩ : ∃ w5, w5 = w.drew.setCells g ((i + 1) * 3) (D.drop (i * 3)) := ⟨_, rfl⟩
  rw [← hw5] at hcp1 h5 k5
  have hx5 := own_kp hxd k5 (.inr (fun e => hne (Option.some.inj e)))
  obtain ⟨u2, hcp2⟩ := run_copy_draft w5 3 g (i * 3) (n + 1 - i) (c - i) ⟨vb, 0, none⟩ 1 1 (dcell (nz nm)) (by rw [dcell_len]; simp only [Nat.min_def]; split <;> omega)
    (fun j u hj => by
      rw [Go.WideShapes.add_plain, Nat.zero_add]
      have hjl : j < 3 := (List.getElem?_eq_some_iff.1 hj).1
      rw [hx5.cellAt j (by omega)]
      exact hj)
    (fun j hj => by rw [dcell_len] at hj; rw [h5.cellAt _ (by omega), List.getElem?_eq_getElem (by rw [over_len _ _ _ (by rw [hdl, hEl]; omega), hEl]; omega)]; rfl)
    (fun j _ => h5.frozenAt _) (nz_one nm)
  obtain ⟨h6, k6⟩ := own_setCells (dcell (nz nm)) (i * 3) w5 _ h5 (by rw [dcell_len, over_len _ _ _ (by rw [hdl, hEl]; omega), hEl]; omega)
  rw [over_shift (D ++ ys) D _ n i hEl hDl (by omega) (List.take_append_of_le_length (by omega)) (dcell_len _), ← HI.out] at h6
  obtain ⟨w6, hw6⟩ : ∃ w6, w6 = w5.setCells g (i * 3) (dcell (nz nm)) := ⟨_, rfl⟩
  rw [← hw6] at hcp2 h6 k6
  have HQ : Hid (w6.ownsRow B 202 3 (.slice (some ⟨g, 0, none⟩) (n + 1) c) (n + 1) (dcells (M.insertIdx i (nz nm))) ∧ Kp (some g) w w6) := Lib.hid ⟨h6, Kp.trans (Kp.of_gr (Gr.refl _).drew) (Kp.trans k5 k6)⟩
  have hov := apart vb g hne w _ _ _ _ (own_shape hx) (own_shape h1) (by omega) hx.frozenAt ((i + 1) * 3) 1 1 (n - i) (c - (i + 1))
  have hs1 := dslice_mid n c i g (by omega) (by omega)
  have hs2 := dslice_to n c (n + 1) hrm (some ⟨g, 0, none⟩)
  have hs3 := dslice_mid (n + 1) c (i + 1) g (by omega) (by omega)
  have hs4 := dslice_mid (n + 1) c i g (by omega) (by omega)
  rw [show (((n + 1 : Nat) : Int)) = (n : Int) + 1 by omega] at hs2
  rw [show (((i + 1 : Nat) : Int)) = (i : Int) + 1 by omega, show n + 1 - (i + 1) = n - i by omega] at hs3
  have e1 : IntKind.i64.wrap ((n : Int) + 1) = (n : Int) + 1 := IntWalk.i64_in _ ⟨by omega, by omega⟩
  have e2 : IntKind.i64.wrap ((i : Int) + 1) = (i : Int) + 1 := IntWalk.i64_in _ ⟨by omega, by omega⟩
  have e3 : ¬ ((i : Int) = (n : Int)) := by omega
  have e4 : ¬ ((c : Int) < (n : Int) + 1) := by omega
  have HC1 := Lib.hid hcp1
  clear h1 h1d hxd hx5 h5 k5 h6 k6 hcp1 hw5 hw6 hx hvb hdl hEl
  go_enter Tryz.func190, Tryz.ntmps190
  go_wp2_with (simp only [hov])
  have HC2 := Lib.hid hcp2
  clear hcp2 hov
  go_region_law
    (refine step_copy_run rfl (.tmp 73) (.tmp 76) rfl _ _ (by simp [Act.eval, Act.put]) (by simp [Act.eval, Act.put]) HC1.out ?_)
  have hcp2 := HC2.out
  go_wp2_with fail
  go_ret
  refine ⟨_, rfl, ?_, .inl rfl, HQ.out.2⟩
  show World.ownsRow _ _ _ _ _ _ _
  rw [HL.out]
  exact HQ.out.1
end Go.Proofs.YtlnhbndghnkfmaaGreatDoor
