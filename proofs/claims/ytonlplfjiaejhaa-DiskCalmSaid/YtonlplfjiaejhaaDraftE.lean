/- Walks: a draft less. -/
import Derived.Test.YtonlplfjiaejhaaDraftD
import Derived.Deep.RegionLaw
namespace Go.Proofs.Ytonlplfjiaejhaa
open Go.RowKit

theorem elemDraft : Try.prog.underlying 49 = some (.slice (Try.prog.elem 49)) ∧ Try.prog.elem 49 = 62 := ⟨by kernel_rfl, by kernel_rfl⟩
theorem sizeDraft : ∀ W : World, (sizeOf 62).run Try.prog W = .ok 3 W := fun W => by kernel_rfl
theorem dslice_from (n c k : Nat) (hk : k ≤ n) (A : Option Addr) : ∀ W : World, (Instr.slice 49 (.slice A n c) (some (.int .i64 (k : Int))) none none).run Try.prog W = .ok (sliced A k n c 3) W := by
  intro W
  rw [run_slice_l W _ A n c elemDraft.1 .i64 (k : Int) (by omega) (by omega), elemDraft.2, sizeDraft]
  rfl
theorem dslice_to (n c k : Nat) (hk : k ≤ c) (A : Option Addr) : ∀ W : World, (Instr.slice 49 (.slice A n c) none (some (.int .i64 (k : Int))) none).run Try.prog W = .ok (.slice A k c) W := by
  intro W
  rw [run_slice_h W _ A n c elemDraft.1 .i64 (k : Int) (by omega) (by omega), elemDraft.2, sizeDraft]
  show Result.ok (sliced A 0 (k : Int).toNat c 3) W = _
  unfold sliced
  rw [Int.toNat_natCast]
  cases A with
  | none => simp
  | some a => simp [Addr.add]
theorem dslice_at (n c k : Nat) (hk : k < c) (g : Nat) : ∀ W : World, (Instr.slice 49 (.slice (some ⟨g, 0, none⟩) n c) (some (.int .i64 (k : Int))) (some (.int .i64 ((k : Int) + 1))) none).run Try.prog W = .ok (.slice (some ⟨g, k * 3, none⟩) 1 (c - k)) W := by
  intro W
  rw [run_slice_lh W _ (some ⟨g, 0, none⟩) n c elemDraft.1 .i64 .i64 (k : Int) ((k : Int) + 1) (by omega) (by omega) (by omega), elemDraft.2, sizeDraft]
  show Result.ok (sliced (some ⟨g, 0, none⟩) (k : Int).toNat ((k : Int) + 1).toNat c 3) W = _
  unfold sliced
  rw [Int.toNat_natCast, show ((k : Int) + 1).toNat = k + 1 by omega, if_neg (by omega), show k + 1 - k = 1 by omega]
  congr 2
  show some ((⟨g, 0, none⟩ : Addr).add (k * 3)) = _
  rw [Go.WideShapes.add_plain, Nat.zero_add]
theorem own_beyond {w : World} {B : Nat} {t : TypeId} {size g n c : Nat} {xs : List Value} (h : w.ownsRow B t size (.slice (some ⟨g, 0, none⟩) n c) n xs) {j : Nat} (hj : n * size ≤ j) (u : Value) : (w.setCell ⟨g, j, none⟩ u).ownsRow B t size (.slice (some ⟨g, 0, none⟩) n c) n xs := by
  have h1 := (h.stored j u).1
  rw [List.set_eq_of_length_le (by rw [h.1]; exact hj)] at h1
  exact h1
theorem own_some {w : World} {B : Nat} {t : TypeId} {size g n c : Nat} {xs : List Value} (h : w.ownsRow B t size (.slice (some ⟨g, 0, none⟩) n c) n xs) {j : Nat} (hj : j < c * size) : (∃ u, w.cell? ⟨g, j, none⟩ = some u) ∧ w.frozen? ⟨g, j, none⟩ = false := by
  refine ⟨?_, h.frozenAt j⟩
  rcases h.2 with ⟨hh, _⟩ | ⟨g', cap', cur, hh, hb, hg, hn, hm, hcs, _⟩
  · cases hh
  · injection hh with h1 h2 h3
    injection h1 with h1
    injection h1 with h1
    subst h1 h3
    rw [cell_of_row w g j cur t (0, 0) hg]
    exact ⟨_, Array.getElem?_eq_getElem (by omega)⟩
theorem run_clear_draft (w : World) (g off cc : Nat) {a b d : Value} (h0 : w.cell? ⟨g, off, none⟩ = some a) (h1 : w.cell? ⟨g, off + 1, none⟩ = some b) (h2 : w.cell? ⟨g, off + 2, none⟩ = some d) (z0 : w.frozen? ⟨g, off, none⟩ = false) (z1 : w.frozen? ⟨g, off + 1, none⟩ = false) (z2 : w.frozen? ⟨g, off + 2, none⟩ = false) (ty : TypeId) :
    (Builtin.clear_ #[49] ty #[.slice (some ⟨g, off, none⟩) 1 cc]).run Try.prog w = .ok (.tuple #[]) (w.setCells g off [.string ⟨#[]⟩, .slice none 0 0, .int .i64 0]) := by
  obtain ⟨i0, hi, hz0, hz1, hz2⟩ := info_parts infoDraft
  have hst := run_storeCells_cells (P := Try.prog) g off [.string ⟨#[]⟩, .slice none 0 0, .int .i64 0] 0 w
    (fun j hj => by
      match j, hj with
      | 0, _ => show (w.cell? ⟨g, off + 0 + 0, none⟩).isSome = true; rw [show off + 0 + 0 = off by omega, h0]; rfl
      | 1, _ => show (w.cell? ⟨g, off + 0 + 1, none⟩).isSome = true; rw [show off + 0 + 1 = off + 1 by omega, h1]; rfl
      | 2, _ => show (w.cell? ⟨g, off + 0 + 2, none⟩).isSome = true; rw [show off + 0 + 2 = off + 2 by omega, h2]; rfl)
    (fun j hj => by
      match j, hj with
      | 0, _ => show w.frozen? ⟨g, off + 0 + 0, none⟩ = false; rw [show off + 0 + 0 = off by omega, z0]
      | 1, _ => show w.frozen? ⟨g, off + 0 + 1, none⟩ = false; rw [show off + 0 + 1 = off + 1 by omega, z1]
      | 2, _ => show w.frozen? ⟨g, off + 0 + 2, none⟩ = false; rw [show off + 0 + 2 = off + 2 by omega, z2])
    (fun v hv => by
      simp only [List.mem_cons, List.not_mem_nil, or_false] at hv
      rcases hv with rfl | rfl | rfl <;> rfl)
  simp only [Nat.add_zero] at hst
  have hzv : ∀ w, (zeroValue 62).run Try.prog w = .ok (.agg #[.string ⟨#[]⟩, .slice none 0 0, .int .i64 0]) w := fun w => by
    simp [zeroValue, typeInfo, hi, hz0]
  have hzc : (Builtin.zeroCells (Value.agg #[.string ⟨#[]⟩, .slice none 0 0, .int .i64 0]).cells 1).toList = [.string ⟨#[]⟩, .slice none 0 0, .int .i64 0] := by kernel_rfl
  have hu : (underlying 49).run Try.prog w = .ok (.slice 62) w := run_underlying Try.underlying49 w
  simp [Builtin.clear_, hu, hzv, hzc, hst]
/-- An append for which there is room: it stays in its block. -/
theorem step_append_in {ops : Array Oper} {o : Oper} {a : Act} {W : World} {K : Act → World → Prop} {Q : Exit → Act → World → Prop} {E : Prop} (hgd : o.guard = none) (s x : Operand)
    (ho : o.op = .call { callee := .builtin .append, args := #[s, x], argTypes := #[49, 49] }) (B g n cap m N : Nat) (xs : List Value) (hs : a.eval s = .slice (some ⟨g, 0, none⟩) n cap)
    (hown : W.ownsRow B 62 3 (.slice (some ⟨g, 0, none⟩) n cap) n xs) (ad : Addr) (c : Nat) (news : List Value) (hx : a.eval x = .slice (some ad) m c) (hsl : SL W 3 (.slice (some ad) m c) m news) (h1 : ∀ u ∈ news, u.oneCell' = true) (hN : n + m = N) (hroom : N ≤ cap)
    (h : ∀ w', w'.ownsRow B 62 3 (.slice (some ⟨g, 0, none⟩) N cap) N (xs ++ news) → Kp (some g) W w' → K (a.put o.dst (.slice (some ⟨g, 0, none⟩) N cap)) w') :
    if Region.wanted o (yielded ops a.tmps) = true then Oper.wp Try.prog o a W K Q else E := by
  obtain ⟨i0, hi, hz0, hz1, hz2⟩ := info_parts infoDraft
  have hw : Region.wanted o (yielded ops a.tmps) = true := by simp [Region.wanted, hgd]
  rw [if_pos hw]
  subst hN
  obtain ⟨A', c', hv, _, _, hl, hc⟩ := hsl
  injection hv with e1 e2 e3
  obtain ⟨w', hr, h2, h3⟩ := run_append_fits (P := Try.prog) W B 49 o.type 62 i0 3 Try.underlying49 hi hz1 g n cap xs hown ad m c news hl (fun j u hj => by
    obtain ⟨b, off, ha, hcc⟩ := hc j u hj
    rw [← e1] at ha
    injection ha with ha
    rw [ha, Go.WideShapes.add_plain]
    exact hcc) h1 hroom
  unfold Oper.wp execOp
  simp only [ho, resolve, invoke, builtin, Sem.run_bind, Sem.run_pure, Result.andThen_ok, List.map_toArray, List.map_cons, List.map_nil, hs, hx, hr]
  exact h w' h2 h3
theorem dcells_erase (M : List FB) (i : Nat) : dcells (M.eraseIdx i) = (dcells M).take (i * 3) ++ (dcells M).drop ((i + 1) * 3) := by
  rw [List.eraseIdx_eq_take_drop_succ]
  unfold dcells
  rw [rows_take dcell 3 dcell_len, rows_drop dcell 3 dcell_len, List.flatMap_append]
theorem dcells_one {w : World} {B : Nat} {M : List FB} (h : ∀ p ∈ M, BO w B p) : ∀ u ∈ dcells M, u.oneCell' = true := by
  intro u hu
  obtain ⟨p, hp, hu⟩ := List.mem_flatMap.1 hu
  obtain ⟨A, c, hv, _⟩ := own_form (h p hp)
  unfold dcell at hu
  rw [hv] at hu
  simp only [List.mem_cons, List.not_mem_nil, or_false] at hu
  rcases hu with rfl | rfl | rfl <;> rfl
/-- A call's answer: one draft less, in the same block. -/
def RetDel (M : List FB) (B i : Nat) (v : Value) (w : World) (e : Ending) (w' : World) : Prop := ∃ v', e = .returned v' ∧ RO w' B v' (M.eraseIdx i) ∧ v'.ownBlock = v.ownBlock ∧ Kp v.ownBlock w w'

set_option maxRecDepth 100000 in
set_option maxHeartbeats 4000000 in
theorem delete_any (v : Value) (M : List FB) (B i : Nat) (w : World) (hv : DR w B v M) (hi : i < M.length) :
    Calls Try.prog 35 #[v, .int .i64 (i : Int), .int .i64 ((i : Int) + 1)] w fun e w' => RetDel M B i v w e w' := by
  obtain ⟨g, c, rfl⟩ := hv.row.addr hi
  obtain ⟨hnc, hc63, _, hgl⟩ := own_len hv.row
  have HONE := Lib.hid (dcells_one hv.bytes)
  have HR : Hid (w.ownsRow B 62 3 (.slice (some ⟨g, 0, none⟩) M.length c) M.length (dcells M)) := Lib.hid hv.row
  clear hv
  obtain ⟨m, hm⟩ : ∃ m, M.length = m + 1 := ⟨M.length - 1, by omega⟩
  rw [hm] at HR hnc hi ⊢
  have HM := Lib.hid hm
  clear hm
  obtain ⟨S, hS⟩ : ∃ S, S = sliced (some ⟨g, 0, none⟩) (i + 1) (m + 1) c 3 := ⟨_, rfl⟩
  obtain ⟨ad, hSa⟩ : ∃ ad, S = .slice (some ad) (m - i) (c - (i + 1)) := by
    rw [hS]
    unfold sliced
    rw [show m + 1 - (i + 1) = m - i by omega]
    split
    · exact ⟨_, rfl⟩
    · exact ⟨_, rfl⟩
  have HSD : Hid (SL w 3 S (m - i) ((dcells M).drop ((i + 1) * 3))) := by
    have h := SL.drop (own_sl HR.out) (k := i + 1) (by omega)
    rw [show m + 1 - (i + 1) = m - i by omega, ← hS] at h
    exact h
  have hsl := dslice_from (m + 1) c (i + 1) (by omega) (some ⟨g, 0, none⟩)
  rw [← hS, hSa, show (((i + 1 : Nat) : Int)) = (i : Int) + 1 by omega] at hsl
  rw [hSa] at HSD
  clear hS hSa
  have hsl0 := dslice_to (m + 1) c i (by omega) (some ⟨g, 0, none⟩)
  have hsl1 := dslice_at m c m (by omega) g
  have HOP : Hid (w.ownsRow B 62 3 (.slice (some ⟨g, 0, none⟩) i c) i ((dcells M).take (i * 3))) := Lib.hid (own_prefix HR.out (by omega))
  have HON : Hid (∀ u ∈ (dcells M).drop ((i + 1) * 3), u.oneCell' = true) := Lib.hid (fun u hu => HONE.out u (List.mem_of_mem_drop hu))
  have HN3 : Hid (i + (m - i) = m) := Lib.hid (by omega)
  have HC3 : Hid (m ≤ c) := Lib.hid (by omega)
  have hne : ¬ ((i : Int) = (i : Int) + 1) := by omega
  have hlhm : ∃ u, ∀ W, (Instr.slice 49 (.slice (some ⟨g, 0, none⟩) (m + 1) c) (some (.int .i64 (i : Int))) (some (.int .i64 ((i : Int) + 1))) (some (.int .i64 ((m : Int) + 1)))).run Try.prog W = .ok u W := by
    refine ⟨sliced (some ⟨g, 0, none⟩) (i : Int).toNat ((i : Int) + 1).toNat ((m : Int) + 1).toNat 3, fun W => ?_⟩
    rw [run_slice_lhm W _ (some ⟨g, 0, none⟩) (m + 1) c elemDraft.1 .i64 .i64 .i64 (i : Int) ((i : Int) + 1) ((m : Int) + 1) (by omega) (by omega) (by omega) (by omega), elemDraft.2, sizeDraft]
    rfl
  obtain ⟨u1, hlhm⟩ := hlhm
  go_enter Try.func35, Try.ntmps35
  go_wp2_with fail
  go_region_law
    (refine step_append_in rfl (.tmp 22) (.tmp 25) rfl B g i c (m - i) m _ (by simp [Act.eval, Act.put]) HOP.out ad (c - (i + 1)) _ (by simp [Act.eval, Act.put]) HSD.out HON.out HN3.out HC3.out ?_
     intro w4 hown4 hgr4)
  all_goals
    have HO4 := Lib.hid hown4
    have HG4 := Lib.hid hgr4
    obtain ⟨⟨x0, y0⟩, z0⟩ := own_some HO4.out (j := m * 3) (by omega)
    obtain ⟨⟨x1, y1⟩, z1⟩ := own_some HO4.out (j := m * 3 + 1) (by omega)
    obtain ⟨⟨x2, y2⟩, z2⟩ := own_some HO4.out (j := m * 3 + 2) (by omega)
    have HCL := Lib.hid (run_clear_draft w4 g (m * 3) (c - m) y0 y1 y2 z0 z1 z2)
    obtain ⟨w5, hw5, hown5, hgr5⟩ : ∃ w5, w5 = w4.setCells g (m * 3) [.string ⟨#[]⟩, .slice none 0 0, .int .i64 0] ∧ w5.ownsRow B 62 3 (.slice (some ⟨g, 0, none⟩) m c) m ((dcells M).take (i * 3) ++ (dcells M).drop ((i + 1) * 3)) ∧ Kp (some g) w w5 := by
      refine ⟨_, rfl, ?_, ?_⟩
      · exact own_beyond (own_beyond (own_beyond HO4.out (by omega) _) (by omega) _) (by omega) _
      · exact Kp.set (Kp.set (Kp.set (Kp.trans (Kp.of_gr (Gr.refl _).drew) HG4.out) (.inr rfl) _ _) (.inr rfl) _ _) (.inr rfl) _ _
    rw [← hw5] at HCL
    have HO5 := Lib.hid hown5
    have HG5 := Lib.hid hgr5
    clear hown4 hgr4 y0 y1 y2 z0 z1 z2 hown5 hgr5 hw5 hsl hsl0 hlhm
    have hcl := HCL.out 0
    go_wp2_with fail
    go_ret
    refine ⟨_, rfl, ?_, rfl, HG5.out⟩
    show World.ownsRow _ _ _ _ _ _ _
    rw [dcells_erase, List.length_eraseIdx_of_lt (by rw [HM.out]; exact hi), HM.out]
    exact HO5.out
end Go.Proofs.Ytonlplfjiaejhaa
