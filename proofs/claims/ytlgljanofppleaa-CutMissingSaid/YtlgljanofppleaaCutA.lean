/- Walks: the program's Size; boxes of eight cells. -/
import Derived.Test.YtlgljanofppleaaCutL
import Derived.Test.YtlgljanofppleaaObj
import Derived.Test.YtlgljanofppleaaVecC
import Derived.Test.YtlgljanofppleaaQuiet
import Derived.StillTailTactics
import Derived.Lib.SmallJoins
namespace Go.Proofs.Ytlgljanofppleaa
open Go.RowKit Go.Joins

/-- The eight cells of a box of logs, that is not frozen. -/
structure LBox (w : World) (b : Nat) (u : Nat → S3) : Prop where
  box : w.heap[b]? = some (.cells (lcells u) 24 (0, 0))
theorem LBox.gr {w w' : World} {b : Nat} {u : Nat → S3} (h : LBox w b u) (g : Gr w w') : LBox w' b u := ⟨gr_obj g h.box⟩
theorem LBox.at {w : World} {b : Nat} {u : Nat → S3} (h : LBox w b u) {k : Nat} (hk : k < 8) : w.cell? ⟨b, k, none⟩ = some (.slice (u k).a (u k).n (u k).c) := by rw [cell_of_block h.box]; exact lcells_at u hk
theorem LBox.all {w : World} {b : Nat} {u : Nat → S3} (h : LBox w b u) : w.cell? ⟨b, 0, none⟩ = some (.slice (u 0).a (u 0).n (u 0).c) ∧ w.cell? ⟨b, 1, none⟩ = some (.slice (u 1).a (u 1).n (u 1).c) ∧ w.cell? ⟨b, 2, none⟩ = some (.slice (u 2).a (u 2).n (u 2).c) ∧ w.cell? ⟨b, 3, none⟩ = some (.slice (u 3).a (u 3).n (u 3).c) ∧ w.cell? ⟨b, 4, none⟩ = some (.slice (u 4).a (u 4).n (u 4).c) ∧ w.cell? ⟨b, 5, none⟩ = some (.slice (u 5).a (u 5).n (u 5).c) ∧ w.cell? ⟨b, 6, none⟩ = some (.slice (u 6).a (u 6).n (u 6).c) ∧ w.cell? ⟨b, 7, none⟩ = some (.slice (u 7).a (u 7).n (u 7).c) :=
  ⟨h.at (by decide), h.at (by decide), h.at (by decide), h.at (by decide), h.at (by decide), h.at (by decide), h.at (by decide), h.at (by decide)⟩
/-- The eight cells of a box of a vector, that is not frozen. -/
structure VBox (w : World) (b : Nat) (a : Nat → Nat) : Prop where
  box : w.heap[b]? = some (.cells (vcells a) 34 (0, 0))
theorem VBox.gr {w w' : World} {b : Nat} {a : Nat → Nat} (h : VBox w b a) (g : Gr w w') : VBox w' b a := ⟨gr_obj g h.box⟩
theorem VBox.at {w : World} {b : Nat} {a : Nat → Nat} (h : VBox w b a) {k : Nat} (hk : k < 8) : w.cell? ⟨b, k, none⟩ = some (.int .u64 (a k : Int)) := by rw [cell_of_block h.box]; exact vcells_at a hk
theorem VBox.all {w : World} {b : Nat} {a : Nat → Nat} (h : VBox w b a) : w.cell? ⟨b, 0, none⟩ = some (.int .u64 (a 0 : Int)) ∧ w.cell? ⟨b, 1, none⟩ = some (.int .u64 (a 1 : Int)) ∧ w.cell? ⟨b, 2, none⟩ = some (.int .u64 (a 2 : Int)) ∧ w.cell? ⟨b, 3, none⟩ = some (.int .u64 (a 3 : Int)) ∧ w.cell? ⟨b, 4, none⟩ = some (.int .u64 (a 4 : Int)) ∧ w.cell? ⟨b, 5, none⟩ = some (.int .u64 (a 5 : Int)) ∧ w.cell? ⟨b, 6, none⟩ = some (.int .u64 (a 6 : Int)) ∧ w.cell? ⟨b, 7, none⟩ = some (.int .u64 (a 7 : Int)) :=
  ⟨h.at (by decide), h.at (by decide), h.at (by decide), h.at (by decide), h.at (by decide), h.at (by decide), h.at (by decide), h.at (by decide)⟩
theorem VBox.fz {w : World} {b : Nat} {a : Nat → Nat} (h : VBox w b a) : w.frozen? ⟨b, 0, none⟩ = false ∧ w.frozen? ⟨b, 1, none⟩ = false ∧ w.frozen? ⟨b, 2, none⟩ = false ∧ w.frozen? ⟨b, 3, none⟩ = false ∧ w.frozen? ⟨b, 4, none⟩ = false ∧ w.frozen? ⟨b, 5, none⟩ = false ∧ w.frozen? ⟨b, 6, none⟩ = false ∧ w.frozen? ⟨b, 7, none⟩ = false :=
  ⟨unfrozen_of_block h.box 0, unfrozen_of_block h.box 1, unfrozen_of_block h.box 2, unfrozen_of_block h.box 3, unfrozen_of_block h.box 4, unfrozen_of_block h.box 5, unfrozen_of_block h.box 6, unfrozen_of_block h.box 7⟩
theorem VBox.zero {w : World} {b : Nat} (h : VBox w b (fun _ => 0)) : w.cell? ⟨b, 0, none⟩ = some (.int .u64 0) ∧ w.cell? ⟨b, 1, none⟩ = some (.int .u64 0) ∧ w.cell? ⟨b, 2, none⟩ = some (.int .u64 0) ∧ w.cell? ⟨b, 3, none⟩ = some (.int .u64 0) ∧ w.cell? ⟨b, 4, none⟩ = some (.int .u64 0) ∧ w.cell? ⟨b, 5, none⟩ = some (.int .u64 0) ∧ w.cell? ⟨b, 6, none⟩ = some (.int .u64 0) ∧ w.cell? ⟨b, 7, none⟩ = some (.int .u64 0) := h.all
theorem VBox.set {w : World} {b : Nat} {a : Nat → Nat} (h : VBox w b a) {k : Nat} (hk : k < 8) (v : Nat) : VBox (w.setCell ⟨b, k, none⟩ (.int .u64 (v : Int))) b (upd a k v) := ⟨by rw [block_setCell h.box, vcells_upd _ hk]⟩
theorem VBox.far {w : World} {b : Nat} {a : Nat → Nat} (h : VBox w b a) {p : Addr} (hp : p.block ≠ b) (v : Value) : VBox (w.setCell p v) b a := ⟨by rw [Go.Deep.blk_setCell_other _ _ _ _ (Ne.symm hp)]; exact h.box⟩
theorem LBox.far {w : World} {b : Nat} {u : Nat → S3} (h : LBox w b u) {p : Addr} (hp : p.block ≠ b) (v : Value) : LBox (w.setCell p v) b u := ⟨by rw [Go.Deep.blk_setCell_other _ _ _ _ (Ne.symm hp)]; exact h.box⟩
abbrev V0 : Array Value := #[.int .u64 0, .int .u64 0, .int .u64 0, .int .u64 0, .int .u64 0, .int .u64 0, .int .u64 0, .int .u64 0]
theorem vbox0 {w : World} {b : Nat} (h : w.heap[b]? = some (.cells V0 34 (0, 0))) : VBox w b (fun _ => 0) := ⟨h⟩
theorem heap_alloc (w : World) (c : Array Value) (t : TypeId) : (w.alloc (.cells c t)).heap[w.heap.size]? = some (.cells c t (0, 0)) := by simp only [World.alloc, Array.getElem?_push]; simp

theorem run_index_logs (u : Nat → S3) {k : Nat} (hk : k < 8) (w : World) : (Instr.index 24 (.agg (lcells u)) (.int .i64 (k : Int))).run Try.prog w = .ok (.slice (u k).a (u k).n (u k).c) w := by
  match k, hk with
  | 0, _ => show _ = _; kernel_rfl
  | 1, _ => show _ = _; kernel_rfl
  | 2, _ => show _ = _; kernel_rfl
  | 3, _ => show _ = _; kernel_rfl
  | 4, _ => show _ = _; kernel_rfl
  | 5, _ => show _ = _; kernel_rfl
  | 6, _ => show _ = _; kernel_rfl
  | 7, _ => show _ = _; kernel_rfl
/-- What Size has in memory: the box of the logs, the answer's, its own. -/
theorem boxesSz (u : Nat → S3) (w : World) : ∃ W, W = ((w.alloc (.cells (lcells u) 24)).alloc (.cells V0 34)).alloc (.cells V0 34) ∧ Gr w W ∧ W.heap.size = w.heap.size + 3 ∧
    LBox W w.heap.size u ∧ VBox W (w.heap.size + 1) (fun _ => 0) ∧ VBox W (w.heap.size + 2) (fun _ => 0) := by
  refine ⟨_, rfl, (((Gr.refl w).alloc _).alloc _).alloc _, by simp, ⟨?_⟩, ⟨?_⟩, ⟨?_⟩⟩
  all_goals (simp only [World.alloc, Array.getElem?_push, Array.size_push]; simp)
  all_goals omega
def szTo (l : LG) (k : Nat) : Nat → Nat := fun i => if i < k then (l i).length else 0
theorem szTo_next (l : LG) (k : Nat) : upd (szTo l k) k (l k).length = szTo l (k + 1) := by
  funext i
  simp only [upd, szTo]
  by_cases h : i = k
  · subst h; simp
  · rw [if_neg h]
    by_cases h2 : i < k
    · rw [if_pos h2, if_pos (by omega)]
    · rw [if_neg h2, if_neg (by omega)]
theorem u64_len {n : Nat} (h : n ≤ 9223372036854775807) : IntKind.u64.wrap (n : Int) = (n : Int) := by simp [IntKind.wrap, IntKind.bits, IntKind.signed]; omega
theorem LV.le {w : World} {u : Nat → S3} {l : LG} (h : LV w u l) {i : Nat} (hi : i < 8) : (l i).length ≤ 9223372036854775807 := by
  obtain ⟨A, c, hv, h1, ⟨h2, _⟩, _⟩ := h i hi
  unfold maxLen at h2
  omega

set_option maxRecDepth 100000 in
set_option maxHeartbeats 2000000 in
theorem size_any (u : Nat → S3) (l : LG) (w : World) (h : LV w u l) :
    Calls Try.prog 16 #[.agg (lcells u)] w fun e w' => e = .returned (.agg (vcells (sizeV l))) ∧ Gr w w' := by
  obtain ⟨W, hW, hg, hsz, hL, hR, hV⟩ := boxesSz u w
  have HL := Lib.hid hL
  have HR := Lib.hid hR
  have HV := Lib.hid hV
  have HG := Lib.hid hg
  have HS := Lib.hid hsz
  have HN := Lib.hid (fun k (hk : k < 8) => h.len hk)
  have HLE := Lib.hid (fun k (hk : k < 8) => h.le hk)
  obtain ⟨l0, l1, l2, l3, l4, l5, l6, l7⟩ := hL.all
  clear hL hR hV hg hsz h
  go_enter Try.func16, Try.ntmps16
  go_upto_region 2 with (fail)
  rw [← hW]
  clear hW
  go_wp2_with fail
  go_loopw [7] (fun i wr => ∃ k : Nat, k ≤ 8 ∧ i = .int .i64 k ∧ VBox wr (w.heap.size + 1 + 1) (szTo l k) ∧ VBox wr (w.heap.size + 1) (fun _ => 0) ∧ Gr w wr) (fun i _ => 8 - (intOf i).toNat)
  case atStart => exact ⟨0, by decide, rfl, HV.out, HR.out, HG.out⟩
  case round =>
    clear l0 l1 l2 l3 l4 l5 l6 l7
    obtain ⟨k, hk, rfl, hV, hR, hgr⟩ := hrel
    by_cases hlt : k < 8
    · have hk0 : (0 : Int) ≤ (k : Int) := Int.natCast_nonneg _
      have hk8 : (k : Int) < 8 := by omega
      have hc := hV.at hlt
      have hfz : wr.frozen? ⟨w.heap.size + 1 + 1, k, none⟩ = false := unfrozen_of_block hV.box k
      have hw := u64_len (HLE.out k hlt)
      have hn := HN.out k hlt
      have hix := fun W => run_index_logs u hlt W
      have HV2 := Lib.hid hV
      have HR2 := Lib.hid hR
      have HG2 := Lib.hid hgr
      clear hV hR hgr
      go_wp2_with fail
      go_roundw
      case measure => simp [intOf]; omega
      case rel =>
        refine ⟨k + 1, by omega, by go_num, ?_, HR2.out.far (by simp) _, Gr.setCell HG2.out (by simp; omega) _⟩
        rw [← szTo_next]
        exact HV2.out.set hlt _
    · obtain rfl : k = 8 := by omega
      obtain ⟨s0, s1, s2, s3, s4, s5, s6, s7⟩ := hV.all
      obtain ⟨r0, r1, r2, r3, r4, r5, r6, r7⟩ := hR.zero
      obtain ⟨f0, f1, f2, f3, f4, f5, f6, f7⟩ := hR.fz
      have HG2 := Lib.hid hgr
      clear hV hR hgr
      go_wp2_with fail
      exact bodyPost_ret (v := .agg (vcells (szTo l 8))) (by simp [results, Try.results16, go_sem, *]) rfl ⟨rfl, by as_aux_lemma => (iterate 8 (with_reducible refine Gr.setCell ?_ (Nat.le_succ _) _)); exact HG2.out⟩
end Go.Proofs.Ytlgljanofppleaa
