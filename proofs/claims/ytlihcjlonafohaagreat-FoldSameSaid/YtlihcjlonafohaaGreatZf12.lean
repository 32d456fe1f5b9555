/- Walks: the document's Copy of a transaction; a transaction's box filled. Rows of transactions; walks: slices.Clone of operations and of transactions; the program's Copy of a transaction. Walks: the program's needsOf. -/
import Derived.Test.YtlihcjlonafohaaGreatZf06
import Derived.Test.YtlihcjlonafohaaGreatZf02
import Derived.Test.YtlihcjlonafohaaGreatZf04
import Derived.Lib.SmallJoins
import Derived.Test.YtlihcjlonafohaaGreatZf09
import Derived.Test.YtlihcjlonafohaaGreatZf07
import Derived.Lib.SliceRun
namespace Go.Proofs.YtlihcjlonafohaaGreat
open Go.RowKit Go.Joins

abbrev zeroX : Array Value := #[.int .i64 0, .int .u64 0, .int .u64 0, .int .u64 0, .int .u64 0, .int .u64 0, .int .u64 0, .int .u64 0, .int .u64 0, .int .u64 0, .int .u64 0, .slice none 0 0]
/-- The world behind the stores of a transaction into a box. -/
def stored12 (W : World) (b : Nat) (v0 v1 v2 v3 v4 v5 v6 v7 v8 v9 v10 v11 : Value) : World := ((((((((((((W.setCell ⟨b, 0, none⟩ v0).setCell ⟨b, 1, none⟩ v1).setCell ⟨b, 2, none⟩ v2).setCell ⟨b, 3, none⟩ v3).setCell ⟨b, 4, none⟩ v4).setCell ⟨b, 5, none⟩ v5).setCell ⟨b, 6, none⟩ v6).setCell ⟨b, 7, none⟩ v7).setCell ⟨b, 8, none⟩ v8).setCell ⟨b, 9, none⟩ v9).setCell ⟨b, 10, none⟩ v10).setCell ⟨b, 11, none⟩ v11)
set_option maxHeartbeats 1000000 in
theorem stored12_facts {W : World} {b : Nat} (v0 v1 v2 v3 v4 v5 v6 v7 v8 v9 v10 v11 : Value) (h2 : W.heap[b]? = some (.cells zeroX 45 (0, 0))) :
    (stored12 W b v0 v1 v2 v3 v4 v5 v6 v7 v8 v9 v10 v11).heap[b]? = some (.cells #[v0, v1, v2, v3, v4, v5, v6, v7, v8, v9, v10, v11] 45 (0, 0)) ∧
      (∀ {B : Nat} {ty : TypeId} {size n : Nat} {v : Value} {xs : List Value}, W.ownsRow B ty size v n xs → ty ≠ 45 → (stored12 W b v0 v1 v2 v3 v4 v5 v6 v7 v8 v9 v10 v11).ownsRow B ty size v n xs) ∧
      (∀ {w : World}, Gr w W → w.heap.size ≤ b → Gr w (stored12 W b v0 v1 v2 v3 v4 v5 v6 v7 v8 v9 v10 v11)) := by
  unfold stored12
  have a0 : (W.setCell ⟨b, 0, none⟩ v0).heap[b]? = some (.cells #[v0, .int .u64 0, .int .u64 0, .int .u64 0, .int .u64 0, .int .u64 0, .int .u64 0, .int .u64 0, .int .u64 0, .int .u64 0, .int .u64 0, .slice none 0 0] 45 (0, 0)) := set_obj h2 v0
  have a1 : ((W.setCell ⟨b, 0, none⟩ v0).setCell ⟨b, 1, none⟩ v1).heap[b]? = some (.cells #[v0, v1, .int .u64 0, .int .u64 0, .int .u64 0, .int .u64 0, .int .u64 0, .int .u64 0, .int .u64 0, .int .u64 0, .int .u64 0, .slice none 0 0] 45 (0, 0)) := set_obj a0 v1
  have a2 : (((W.setCell ⟨b, 0, none⟩ v0).setCell ⟨b, 1, none⟩ v1).setCell ⟨b, 2, none⟩ v2).heap[b]? = some (.cells #[v0, v1, v2, .int .u64 0, .int .u64 0, .int .u64 0, .int .u64 0, .int .u64 0, .int .u64 0, .int .u64 0, .int .u64 0, .slice none 0 0] 45 (0, 0)) := set_obj a1 v2
  have a3 : ((((W.setCell ⟨b, 0, none⟩ v0).setCell ⟨b, 1, none⟩ v1).setCell ⟨b, 2, none⟩ v2).setCell ⟨b, 3, none⟩ v3).heap[b]? = some (.cells #[v0, v1, v2, v3, .int .u64 0, .int .u64 0, .int .u64 0, .int .u64 0, .int .u64 0, .int .u64 0, .int .u64 0, .slice none 0 0] 45 (0, 0)) := set_obj a2 v3
  have a4 : (((((W.setCell ⟨b, 0, none⟩ v0).setCell ⟨b, 1, none⟩ v1).setCell ⟨b, 2, none⟩ v2).setCell ⟨b, 3, none⟩ v3).setCell ⟨b, 4, none⟩ v4).heap[b]? = some (.cells #[v0, v1, v2, v3, v4, .int .u64 0, .int .u64 0, .int .u64 0, .int .u64 0, .int .u64 0, .int .u64 0, .slice none 0 0] 45 (0, 0)) := set_obj a3 v4
  have a5 : ((((((W.setCell ⟨b, 0, none⟩ v0).setCell ⟨b, 1, none⟩ v1).setCell ⟨b, 2, none⟩ v2).setCell ⟨b, 3, none⟩ v3).setCell ⟨b, 4, none⟩ v4).setCell ⟨b, 5, none⟩ v5).heap[b]? = some (.cells #[v0, v1, v2, v3, v4, v5, .int .u64 0, .int .u64 0, .int .u64 0, .int .u64 0, .int .u64 0, .slice none 0 0] 45 (0, 0)) := set_obj a4 v5
  have a6 : (((((((W.setCell ⟨b, 0, none⟩ v0).setCell ⟨b, 1, none⟩ v1).setCell ⟨b, 2, none⟩ v2).setCell ⟨b, 3, none⟩ v3).setCell ⟨b, 4, none⟩ v4).setCell ⟨b, 5, none⟩ v5).setCell ⟨b, 6, none⟩ v6).heap[b]? = some (.cells #[v0, v1, v2, v3, v4, v5, v6, .int .u64 0, .int .u64 0, .int .u64 0, .int .u64 0, .slice none 0 0] 45 (0, 0)) := set_obj a5 v6
  have a7 : ((((((((W.setCell ⟨b, 0, none⟩ v0).setCell ⟨b, 1, none⟩ v1).setCell ⟨b, 2, none⟩ v2).setCell ⟨b, 3, none⟩ v3).setCell ⟨b, 4, none⟩ v4).setCell ⟨b, 5, none⟩ v5).setCell ⟨b, 6, none⟩ v6).setCell ⟨b, 7, none⟩ v7).heap[b]? = some (.cells #[v0, v1, v2, v3, v4, v5, v6, v7, .int .u64 0, .int .u64 0, .int .u64 0, .slice none 0 0] 45 (0, 0)) := set_obj a6 v7
  have a8 : (((((((((W.setCell ⟨b, 0, none⟩ v0).setCell ⟨b, 1, none⟩ v1).setCell ⟨b, 2, none⟩ v2).setCell ⟨b, 3, none⟩ v3).setCell ⟨b, 4, none⟩ v4).setCell ⟨b, 5, none⟩ v5).setCell ⟨b, 6, none⟩ v6).setCell ⟨b, 7, none⟩ v7).setCell ⟨b, 8, none⟩ v8).heap[b]? = some (.cells #[v0, v1, v2, v3, v4, v5, v6, v7, v8, .int .u64 0, .int .u64 0, .slice none 0 0] 45 (0, 0)) := set_obj a7 v8
  have a9 : ((((((((((W.setCell ⟨b, 0, none⟩ v0).setCell ⟨b, 1, none⟩ v1).setCell ⟨b, 2, none⟩ v2).setCell ⟨b, 3, none⟩ v3).setCell ⟨b, 4, none⟩ v4).setCell ⟨b, 5, none⟩ v5).setCell ⟨b, 6, none⟩ v6).setCell ⟨b, 7, none⟩ v7).setCell ⟨b, 8, none⟩ v8).setCell ⟨b, 9, none⟩ v9).heap[b]? = some (.cells #[v0, v1, v2, v3, v4, v5, v6, v7, v8, v9, .int .u64 0, .slice none 0 0] 45 (0, 0)) := set_obj a8 v9
  have a10 : (((((((((((W.setCell ⟨b, 0, none⟩ v0).setCell ⟨b, 1, none⟩ v1).setCell ⟨b, 2, none⟩ v2).setCell ⟨b, 3, none⟩ v3).setCell ⟨b, 4, none⟩ v4).setCell ⟨b, 5, none⟩ v5).setCell ⟨b, 6, none⟩ v6).setCell ⟨b, 7, none⟩ v7).setCell ⟨b, 8, none⟩ v8).setCell ⟨b, 9, none⟩ v9).setCell ⟨b, 10, none⟩ v10).heap[b]? = some (.cells #[v0, v1, v2, v3, v4, v5, v6, v7, v8, v9, v10, .slice none 0 0] 45 (0, 0)) := set_obj a9 v10
  have a11 : ((((((((((((W.setCell ⟨b, 0, none⟩ v0).setCell ⟨b, 1, none⟩ v1).setCell ⟨b, 2, none⟩ v2).setCell ⟨b, 3, none⟩ v3).setCell ⟨b, 4, none⟩ v4).setCell ⟨b, 5, none⟩ v5).setCell ⟨b, 6, none⟩ v6).setCell ⟨b, 7, none⟩ v7).setCell ⟨b, 8, none⟩ v8).setCell ⟨b, 9, none⟩ v9).setCell ⟨b, 10, none⟩ v10).setCell ⟨b, 11, none⟩ v11).heap[b]? = some (.cells #[v0, v1, v2, v3, v4, v5, v6, v7, v8, v9, v10, v11] 45 (0, 0)) := set_obj a10 v11
  refine ⟨a11, fun h ht => ?_, fun h q2 => (Gr.setCell (Gr.setCell (Gr.setCell (Gr.setCell (Gr.setCell (Gr.setCell (Gr.setCell (Gr.setCell (Gr.setCell (Gr.setCell (Gr.setCell (Gr.setCell h q2 _) q2 _) q2 _) q2 _) q2 _) q2 _) q2 _) q2 _) q2 _) q2 _) q2 _) q2 _)⟩
  have r0 := own_set_obj h h2 ht (i := 0) v0
  have r1 := own_set_obj r0 a0 ht (i := 1) v1
  have r2 := own_set_obj r1 a1 ht (i := 2) v2
  have r3 := own_set_obj r2 a2 ht (i := 3) v3
  have r4 := own_set_obj r3 a3 ht (i := 4) v4
  have r5 := own_set_obj r4 a4 ht (i := 5) v5
  have r6 := own_set_obj r5 a5 ht (i := 6) v6
  have r7 := own_set_obj r6 a6 ht (i := 7) v7
  have r8 := own_set_obj r7 a7 ht (i := 8) v8
  have r9 := own_set_obj r8 a8 ht (i := 9) v9
  have r10 := own_set_obj r9 a9 ht (i := 10) v10
  exact own_set_obj r10 a10 ht (i := 11) v11
theorem wpList_copy_to {W : World} {ops : Array Oper} {rest : List Oper} {o : Oper} {a : Act} {Q : Exit → Act → World → Prop} (hw : Region.wanted o (yielded ops a.tmps) = true) (s x : Operand)
    (ho : o.op = .call { callee := .builtin .append, args := #[s, x], argTypes := #[43, 43] })
    (hs : a.eval s = .slice (some ⟨W.heap.size, 0, none⟩) 0 0) (vx : Value) (L : List TO) (n : Nat) (hn : n = L.length) (hx : a.eval x = vx) (hxv : TOV W vx L) (hlen : n * 48 ≤ 140737488355328)
    (h : ∀ A' c' w', TOO w' W.heap.size (.slice A' n c') L → Gr W w' → wpList Tryz.prog ops Q rest (a.put o.dst (.slice A' n c')) w') :
    wpList Tryz.prog ops Q (o :: rest) a (W.alloc (.cells #[] 92)) := by
  subst hn
  obtain ⟨i0, hi, hz0, hz1, hz2⟩ := info_parts infoTOp
  refine Go.BigFrame.wpList_want hw (fun K hK => ?_)
  refine wp_append_sl _ s x 43 ho W.heap.size 92 i0 _ 4 48 Tryz.underlying43 hi hz0 hz1 hz2 rfl (by decide) _ 0 [] hs (own_none W _ 4) vx L.length (tocells L) hx
    (hxv.gr (gr_box W _)).sl (tocells_one L) (by unfold maxLen; omega) (by omega) (by simp) L.length (Nat.zero_add _) ?_
  intro A' c' w' hown' hgr _
  refine hK _ _ (h A' c' w' (by rw [List.nil_append] at hown'; exact hown') (gr_of_grown (gr_box W _) (own_none W _ 4) hgr (by simp)))
set_option maxRecDepth 100000 in
set_option maxHeartbeats 4000000 in
/-- The document's Copy. -/
theorem rcopy8_own (t : TX) (v : Value) (w : World) (hv : TOV w v t.ops) (hlen : t.ops.length * 48 ≤ 140737488355328) :
    Calls Tryz.prog 33 #[.agg (tcs t v)] w fun e w' => ∃ u, e = .returned (.agg (tcs t u)) ∧ TOO w' w.heap.size u t.ops ∧ Gr w w' := by
  obtain ⟨A, c, rfl⟩ := tov_form hv
  obtain ⟨n, hn⟩ : ∃ n, n = t.ops.length := ⟨_, rfl⟩
  rw [← hn] at hv hlen ⊢
  obtain ⟨W, hW, hg, h1, h2⟩ : ∃ W, W = (w.alloc (.cells (tcs t (.slice A n c)) 45)).alloc (.cells zeroX 45) ∧ Gr w W ∧ W.heap[w.heap.size]? = some (.cells (tcs t (.slice A n c)) 45 (0, 0)) ∧ W.heap[w.heap.size + 1]? = some (.cells zeroX 45 (0, 0)) := by
    refine ⟨_, rfl, ((Gr.refl w).alloc _).alloc _, ?_, ?_⟩ <;> (simp only [World.alloc, Array.getElem?_push, Array.size_push]; simp)
  have HG := Lib.hid hg
  have HV := Lib.hid (hv.gr hg)
  have HN := Lib.hid hn
  have H1 := Lib.hid h1
  have H2 := Lib.hid h2
  have q11 : (W.alloc (.cells #[] 92)).cell? ⟨w.heap.size, 11, none⟩ = some (.slice A n c) := by rw [cell_of_block (gr_obj (gr_box W _) h1)]; rfl
  clear hg hv hn h1 h2
  go_enter Tryz.func33, Tryz.ntmps33
  go_upto_region 1 with (fail)
  rw [← hW]
  clear hW
  go_upto_region 2 with (at_builtin; refine wpList_copy_to rfl (.tmp 3) (.tmp 5) rfl rfl (.slice A n c) t.ops n HN.out rfl HV.out hlen ?_; intro A2 c2 w2 hp2 g2; have p11 : w2.cell? ⟨w.heap.size, 11, none⟩ = some (.slice A n c) := (by rw [cell_of_block (gr_obj g2 H1.out)]; rfl); have f11 : w2.frozen? ⟨w.heap.size, 11, none⟩ = false := unfrozen_of_block (gr_obj g2 H1.out) 11; have HP2 := Lib.hid hp2; have HG2 := Lib.hid g2; clear hp2 g2 q11)
  have h1 : (w2.setCell ⟨w.heap.size, 11, none⟩ (.slice A2 n c2)).heap[w.heap.size]? = some (.cells (tcs t (.slice A2 n c2)) 45 (0, 0)) := set_obj (gr_obj HG2.out H1.out) _
  have h2 : (w2.setCell ⟨w.heap.size, 11, none⟩ (.slice A2 n c2)).heap[w.heap.size + 1]? = some (.cells zeroX 45 (0, 0)) := set_obj_other (gr_obj HG2.out H2.out) (by omega) _
  have hg5 : Gr w (w2.setCell ⟨w.heap.size, 11, none⟩ (.slice A2 n c2)) := (HG.out.trans HG2.out).setCell (Nat.le_refl _) _
  have ho5 : TOO (w2.setCell ⟨w.heap.size, 11, none⟩ (.slice A2 n c2)) W.heap.size (.slice A2 n c2) t.ops := own_set_obj HP2.out (gr_obj HG2.out H1.out) (by decide) _
  obtain ⟨w5, hw5⟩ : ∃ x, x = w2.setCell ⟨w.heap.size, 11, none⟩ (.slice A2 n c2) := ⟨_, rfl⟩
  rw [← hw5] at h1 h2 hg5 ho5 ⊢
  have p0 : w5.cell? ⟨w.heap.size, 0, none⟩ = some (.int .i64 t.origin) := by rw [cell_of_block h1]; rfl
  have p1 : w5.cell? ⟨w.heap.size, 1, none⟩ = some (.int .u64 (t.seq : Int)) := by rw [cell_of_block h1]; rfl
  have p2 : w5.cell? ⟨w.heap.size, 2, none⟩ = some (.int .u64 (t.stamp : Int)) := by rw [cell_of_block h1]; rfl
  have p3 : w5.cell? ⟨w.heap.size, 3, none⟩ = some (.int .u64 (t.deps 0 : Int)) := by rw [cell_of_block h1]; rfl
  have p4 : w5.cell? ⟨w.heap.size, 4, none⟩ = some (.int .u64 (t.deps 1 : Int)) := by rw [cell_of_block h1]; rfl
  have p5 : w5.cell? ⟨w.heap.size, 5, none⟩ = some (.int .u64 (t.deps 2 : Int)) := by rw [cell_of_block h1]; rfl
  have p6 : w5.cell? ⟨w.heap.size, 6, none⟩ = some (.int .u64 (t.deps 3 : Int)) := by rw [cell_of_block h1]; rfl
  have p7 : w5.cell? ⟨w.heap.size, 7, none⟩ = some (.int .u64 (t.deps 4 : Int)) := by rw [cell_of_block h1]; rfl
  have p8 : w5.cell? ⟨w.heap.size, 8, none⟩ = some (.int .u64 (t.deps 5 : Int)) := by rw [cell_of_block h1]; rfl
  have p9 : w5.cell? ⟨w.heap.size, 9, none⟩ = some (.int .u64 (t.deps 6 : Int)) := by rw [cell_of_block h1]; rfl
  have p10 : w5.cell? ⟨w.heap.size, 10, none⟩ = some (.int .u64 (t.deps 7 : Int)) := by rw [cell_of_block h1]; rfl
  have p11 : w5.cell? ⟨w.heap.size, 11, none⟩ = some (.slice A2 n c2) := by rw [cell_of_block h1]; rfl
  have z0 : w5.cell? ⟨w.heap.size + 1, 0, none⟩ = some (.int .i64 0) := by rw [cell_of_block h2]; rfl
  have z1 : w5.cell? ⟨w.heap.size + 1, 1, none⟩ = some (.int .u64 0) := by rw [cell_of_block h2]; rfl
  have z2 : w5.cell? ⟨w.heap.size + 1, 2, none⟩ = some (.int .u64 0) := by rw [cell_of_block h2]; rfl
  have z3 : w5.cell? ⟨w.heap.size + 1, 3, none⟩ = some (.int .u64 0) := by rw [cell_of_block h2]; rfl
  have z4 : w5.cell? ⟨w.heap.size + 1, 4, none⟩ = some (.int .u64 0) := by rw [cell_of_block h2]; rfl
  have z5 : w5.cell? ⟨w.heap.size + 1, 5, none⟩ = some (.int .u64 0) := by rw [cell_of_block h2]; rfl
  have z6 : w5.cell? ⟨w.heap.size + 1, 6, none⟩ = some (.int .u64 0) := by rw [cell_of_block h2]; rfl
  have z7 : w5.cell? ⟨w.heap.size + 1, 7, none⟩ = some (.int .u64 0) := by rw [cell_of_block h2]; rfl
  have z8 : w5.cell? ⟨w.heap.size + 1, 8, none⟩ = some (.int .u64 0) := by rw [cell_of_block h2]; rfl
  have z9 : w5.cell? ⟨w.heap.size + 1, 9, none⟩ = some (.int .u64 0) := by rw [cell_of_block h2]; rfl
  have z10 : w5.cell? ⟨w.heap.size + 1, 10, none⟩ = some (.int .u64 0) := by rw [cell_of_block h2]; rfl
  have z11 : w5.cell? ⟨w.heap.size + 1, 11, none⟩ = some (.slice none 0 0) := by rw [cell_of_block h2]; rfl
  have k0 := unfrozen_of_block h2 0
  have k1 := unfrozen_of_block h2 1
  have k2 := unfrozen_of_block h2 2
  have k3 := unfrozen_of_block h2 3
  have k4 := unfrozen_of_block h2 4
  have k5 := unfrozen_of_block h2 5
  have k6 := unfrozen_of_block h2 6
  have k7 := unfrozen_of_block h2 7
  have k8 := unfrozen_of_block h2 8
  have k9 := unfrozen_of_block h2 9
  have k10 := unfrozen_of_block h2 10
  have k11 := unfrozen_of_block h2 11
  have HB2 := Lib.hid h2
  have HG5 := Lib.hid hg5
  have HO5 := Lib.hid ho5
  clear h1 h2 hg5 ho5 hw5
  go_wp2_with fail
  obtain ⟨e2, howns, hgrs⟩ := stored12_facts (.int .i64 t.origin) (.int .u64 (t.seq : Int)) (.int .u64 (t.stamp : Int)) (.int .u64 (t.deps 0 : Int)) (.int .u64 (t.deps 1 : Int)) (.int .u64 (t.deps 2 : Int)) (.int .u64 (t.deps 3 : Int)) (.int .u64 (t.deps 4 : Int)) (.int .u64 (t.deps 5 : Int)) (.int .u64 (t.deps 6 : Int)) (.int .u64 (t.deps 7 : Int)) (.slice A2 n c2) HB2.out
  have hown5 := howns HO5.out (by decide)
  have hgr5 := hgrs HG5.out (Nat.le_succ _)
  clear howns hgrs p0 p1 p2 p3 p4 p5 p6 p7 p8 p9 p10 p11 z0 z1 z2 z3 z4 z5 z6 z7 z8 z9 z10 z11 k0 k1 k2 k3 k4 k5 k6 k7 k8 k9 k10 k11
  obtain ⟨WF, hWF⟩ : ∃ x, x = stored12 w5 (w.heap.size + 1) (.int .i64 t.origin) (.int .u64 (t.seq : Int)) (.int .u64 (t.stamp : Int)) (.int .u64 (t.deps 0 : Int)) (.int .u64 (t.deps 1 : Int)) (.int .u64 (t.deps 2 : Int)) (.int .u64 (t.deps 3 : Int)) (.int .u64 (t.deps 4 : Int)) (.int .u64 (t.deps 5 : Int)) (.int .u64 (t.deps 6 : Int)) (.int .u64 (t.deps 7 : Int)) (.slice A2 n c2) := ⟨_, rfl⟩
  rw [← hWF] at e2 hown5 hgr5
  unfold stored12 at hWF
  rw [← hWF]
  have z0 : WF.cell? ⟨w.heap.size + 1, 0, none⟩ = some (.int .i64 t.origin) := by rw [cell_of_block e2]; rfl
  have z1 : WF.cell? ⟨w.heap.size + 1, 1, none⟩ = some (.int .u64 (t.seq : Int)) := by rw [cell_of_block e2]; rfl
  have z2 : WF.cell? ⟨w.heap.size + 1, 2, none⟩ = some (.int .u64 (t.stamp : Int)) := by rw [cell_of_block e2]; rfl
  have z3 : WF.cell? ⟨w.heap.size + 1, 3, none⟩ = some (.int .u64 (t.deps 0 : Int)) := by rw [cell_of_block e2]; rfl
  have z4 : WF.cell? ⟨w.heap.size + 1, 4, none⟩ = some (.int .u64 (t.deps 1 : Int)) := by rw [cell_of_block e2]; rfl
  have z5 : WF.cell? ⟨w.heap.size + 1, 5, none⟩ = some (.int .u64 (t.deps 2 : Int)) := by rw [cell_of_block e2]; rfl
  have z6 : WF.cell? ⟨w.heap.size + 1, 6, none⟩ = some (.int .u64 (t.deps 3 : Int)) := by rw [cell_of_block e2]; rfl
  have z7 : WF.cell? ⟨w.heap.size + 1, 7, none⟩ = some (.int .u64 (t.deps 4 : Int)) := by rw [cell_of_block e2]; rfl
  have z8 : WF.cell? ⟨w.heap.size + 1, 8, none⟩ = some (.int .u64 (t.deps 5 : Int)) := by rw [cell_of_block e2]; rfl
  have z9 : WF.cell? ⟨w.heap.size + 1, 9, none⟩ = some (.int .u64 (t.deps 6 : Int)) := by rw [cell_of_block e2]; rfl
  have z10 : WF.cell? ⟨w.heap.size + 1, 10, none⟩ = some (.int .u64 (t.deps 7 : Int)) := by rw [cell_of_block e2]; rfl
  have z11 : WF.cell? ⟨w.heap.size + 1, 11, none⟩ = some (.slice A2 n c2) := by rw [cell_of_block e2]; rfl
  clear e2 hWF
  refine bodyPost_ret (v := .agg (tcs t (.slice A2 n c2))) (by simp [results, Tryz.results33, go_sem, *]) rfl ?_
  exact ⟨_, rfl, own_le hown5 HG.out.size, hgr5⟩
end Go.Proofs.YtlihcjlonafohaaGreat
namespace Go.Proofs.YtlihcjlonafohaaGreat
open Go.RowKit Go.Joins

/-- The list's places from o on hold cs. -/
def setFrom (xs : List Value) : Nat → List Value → List Value
  | _, [] => xs
  | o, u :: r => setFrom (xs.set o u) (o + 1) r
def putCells (w : World) (g : Nat) : Nat → List Value → World
  | _, [] => w
  | o, u :: r => putCells (w.setCell ⟨g, o, none⟩ u) g (o + 1) r
theorem setFrom_at : ∀ (cs : List Value) (xs : List Value) (o j : Nat), o + cs.length ≤ xs.length → (setFrom xs o cs)[j]? = if o ≤ j ∧ j < o + cs.length then cs[j - o]? else xs[j]?
  | [], xs, o, j, _ => by rw [if_neg (by simp only [List.length_nil]; omega)]; rfl
  | u :: r, xs, o, j, h => by
    rw [List.length_cons] at h
    show (setFrom (xs.set o u) (o + 1) r)[j]? = _
    rw [setFrom_at r (xs.set o u) (o + 1) j (by rw [List.length_set]; omega), List.length_cons]
    by_cases e : j = o
    · subst e
      rw [if_neg (by omega), if_pos (by omega), Nat.sub_self, List.getElem?_set_self (by omega)]
      rfl
    · by_cases h2 : o + 1 ≤ j ∧ j < o + 1 + r.length
      · rw [if_pos h2, if_pos (by omega), show j - o = (j - (o + 1)) + 1 by omega]
        rfl
      · rw [if_neg h2, if_neg (by omega), List.getElem?_set_ne (fun q => e q.symm)]
theorem setFrom_rows {α : Type} (f : α → List Value) (k : Nat) (hf : ∀ x, (f x).length = k) (hk : 0 < k) (L : List α) (i : Nat) (hi : i < L.length) (y : α) : setFrom (L.flatMap f) (i * k) (f y) = (L.set i y).flatMap f := by
  have hl := rows_len f k hf L
  have hik : i * k + k ≤ L.length * k := by
    have := Nat.mul_le_mul_right k hi
    rw [Nat.succ_mul] at this
    exact this
  refine List.ext_getElem? fun j => ?_
  rw [setFrom_at (f y) _ _ _ (by rw [hf, hl]; exact hik), hf]
  rcases Nat.lt_or_ge j (L.length * k) with hj | hj
  · have hq : j / k < L.length := by rw [Nat.div_lt_iff_lt_mul hk]; exact hj
    have hr := Nat.mod_lt j hk
    have hd := Nat.div_add_mod j k
    rw [Nat.mul_comm] at hd
    have e1 : ((L.set i y).flatMap f)[j]? = (f ((L.set i y)[j / k]'(by rw [List.length_set]; exact hq)))[j % k]? := by
      rw [← rows_at f k hf (L.set i y) (j / k) (j % k) (by rw [List.length_set]; exact hq) hr, hd]
    have e2 : (L.flatMap f)[j]? = (f L[j / k])[j % k]? := by rw [← rows_at f k hf L (j / k) (j % k) hq hr, hd]
    rw [e1, e2]
    by_cases e : j / k = i
    · have hji : j = i * k + j % k := by rw [← e]; exact hd.symm
      rw [if_pos (by omega)]
      have : (L.set i y)[j / k]'(by rw [List.length_set]; exact hq) = y := by
        subst e
        exact List.getElem_set_self _
      rw [this]
      congr 1
      omega
    · have hne : ¬ (i * k ≤ j ∧ j < i * k + k) := fun h => e (by
        have h1 : j < (i + 1) * k := by rw [Nat.succ_mul]; omega
        have h2 := (Nat.div_lt_iff_lt_mul hk).2 h1
        have h3 := (Nat.le_div_iff_mul_le hk).2 h.1
        omega)
      rw [if_neg hne]
      have : (L.set i y)[j / k]'(by rw [List.length_set]; exact hq) = L[j / k] := List.getElem_set_ne (fun q => e q.symm) _
      rw [this]
  · rw [if_neg (by omega), List.getElem?_eq_none (by rw [hl]; exact hj), List.getElem?_eq_none (by rw [rows_len f k hf, List.length_set]; exact hj)]
theorem own_putCells {B : Nat} {t : TypeId} {size g n c : Nat} : ∀ (cs : List Value) (o : Nat) (w : World) (xs : List Value), w.ownsRow B t size (.slice (some ⟨g, 0, none⟩) n c) n xs →
    (putCells w g o cs).ownsRow B t size (.slice (some ⟨g, 0, none⟩) n c) n (setFrom xs o cs) ∧ Kp (some g) w (putCells w g o cs)
  | [], o, w, xs, h => ⟨h, Kp.refl _ _⟩
  | u :: r, o, w, xs, h => by
    obtain ⟨h1, h2⟩ := h.stored o u
    obtain ⟨h3, h4⟩ := own_putCells r (o + 1) _ _ h1
    exact ⟨h3, Kp.trans h2 h4⟩
/-- A transaction and where its operations lie. -/
abbrev TR := TX × S3
def trcells (r : TR) : List Value := (tcs r.1 r.2.v).toList
theorem trcells_len (r : TR) : (trcells r).length = 12 := rfl
def trs (R : List TR) : List Value := R.flatMap trcells
theorem trs_one (R : List TR) : ∀ u ∈ trs R, u.oneCell' = true := by
  intro u hu
  obtain ⟨o, _, hu⟩ := List.mem_flatMap.1 hu
  unfold trcells at hu
  simp only [List.mem_cons, List.not_mem_nil, or_false] at hu
  rcases hu with rfl | rfl | rfl | rfl | rfl | rfl | rfl | rfl | rfl | rfl | rfl | rfl <;> rfl
def texts (R : List TR) : List TX := R.map (·.1)
/-- Each transaction's operations lie where they should. -/
def TOs (w : World) (R : List TR) : Prop := ∀ r ∈ R, TOV w r.2.v r.1.ops
theorem TOs.gr {w w' : World} {R : List TR} (h : TOs w R) (g : Gr w w') : TOs w' R := fun r hr => (h r hr).gr g
theorem xfix_at {w : World} {b off j : Nat} {R : List TR} (hj : j < R.length) (h : ∀ i u, (trs R)[i]? = some u → w.cell? ⟨b, off + i, none⟩ = some u) : XFix w b (off + j * 12) R[j].1 R[j].2.v := by
  have at_ : ∀ r u, r < 12 → (trcells R[j])[r]? = some u → w.cell? ⟨b, off + j * 12 + r, none⟩ = some u := fun r u hr hu => by
    rw [Nat.add_assoc]
    exact h _ u (by rw [show trs R = R.flatMap trcells from rfl, rows_at trcells 12 trcells_len R j r hj hr]; exact hu)
  exact ⟨at_ 0 _ (by decide) rfl, at_ 1 _ (by decide) rfl, at_ 2 _ (by decide) rfl, at_ 3 _ (by decide) rfl, at_ 4 _ (by decide) rfl, at_ 5 _ (by decide) rfl, at_ 6 _ (by decide) rfl, at_ 7 _ (by decide) rfl, at_ 8 _ (by decide) rfl, at_ 9 _ (by decide) rfl, at_ 10 _ (by decide) rfl, at_ 11 _ (by decide) rfl⟩
theorem xv_of_sl {w : World} {v : Value} {R : List TR} (h : SL w 12 v R.length (trs R)) (ho : TOs w R) : XV w v (texts R) := by
  obtain ⟨A, c, hv, h1, h2, h3, h4⟩ := h
  refine ⟨A, c, by unfold texts; rw [List.length_map]; exact hv, by unfold texts; rw [List.length_map]; exact h1, h2, fun j hj => ?_⟩
  unfold texts at hj
  rw [List.length_map] at hj
  obtain ⟨b, off, ha, _⟩ := h4 (j * 12) _ (by rw [show trs R = R.flatMap trcells from rfl, show j * 12 = j * 12 + 0 by omega, rows_at trcells 12 trcells_len R j 0 hj (by decide)]; rfl)
  refine ⟨b, off, ha, ?_⟩
  have hx := xfix_at (w := w) (b := b) (off := off) hj fun i u hu => by
    obtain ⟨b', off', ha', hc⟩ := h4 i u hu
    rw [ha] at ha'
    injection ha' with ha'
    injection ha' with e1 e2
    subst e1 e2
    exact hc
  unfold texts
  rw [List.getElem_map]
  exact ⟨R[j].2.v, ho _ (List.getElem_mem hj), hx⟩
/-- The call owns the slice v from block B on: it reads as these transactions. -/
def XO (w : World) (B : Nat) (v : Value) (R : List TR) : Prop := w.ownsRow B 45 12 v R.length (trs R)
theorem XO.gr {w w' : World} {B : Nat} {v : Value} {R : List TR} (h : XO w B v R) (g : Gr w w') : XO w' B v R := own_gr h g
theorem XO.le {w : World} {B B' : Nat} {v : Value} {R : List TR} (h : XO w B v R) (hb : B' ≤ B) : XO w B' v R := own_le h hb
theorem XO.xv {w : World} {B : Nat} {v : Value} {R : List TR} (h : XO w B v R) (ho : TOs w R) : XV w v (texts R) := xv_of_sl (own_sl h) ho
theorem infoTxn : (Tryz.prog.info? 45).map (fun i => (i.zero, i.size, i.bytes)) = some (some (.agg zeroX), 12, 112) := by kernel_rfl

end Go.Proofs.YtlihcjlonafohaaGreat
namespace Go.Proofs.YtlihcjlonafohaaGreat
open Go.RowKit Go.Joins

/-- All that the first k + 1 transactions of a log depend on. -/
def needV (L : List TX) : Nat → (Nat → Nat)
  | 0 => fun _ => 0
  | k + 1 => match L[k]? with | some t => jn (needV L k) t.deps | none => needV L k
theorem needV_next {L : List TX} {k : Nat} {t : TX} (h : L[k]? = some t) : needV L (k + 1) = jn (needV L k) t.deps := by
  show (match L[k]? with | some t => _ | none => _) = _
  rw [h]
theorem needV_le {L : List TX} {v : Nat → Nat} : ∀ {k : Nat}, k ≤ L.length → (leqB (needV L k) v = true ↔ ∀ d t, d < k → L[d]? = some t → leqB t.deps v = true)
  | 0, _ => ⟨fun _ d t hd => absurd hd (Nat.not_lt_zero _), fun _ => lq_of fun _ _ => Nat.zero_le _⟩
  | k + 1, hk => by
    have ht : L[k]? = some L[k] := List.getElem?_eq_getElem (by omega)
    rw [needV_next ht]
    have ih := needV_le (L := L) (v := v) (k := k) (by omega)
    refine ⟨fun h d t hd hdt => ?_, fun h => lq_of fun i hi => ?_⟩
    · by_cases e : d = k
      · subst e
        rw [ht] at hdt
        injection hdt with hdt
        subst hdt
        refine lq_of fun i hi => ?_
        have : max _ _ ≤ _ := lq h hi
        omega
      · refine ih.1 (lq_of fun i hi => ?_) d t (by omega) hdt
        have : max _ _ ≤ _ := lq h hi
        omega
    · have h1 := lq (ih.2 fun d t hd hdt => h d t (by omega) hdt) hi
      have h2 := lq (h k _ (Nat.lt_succ_self _) ht) hi
      show max _ _ ≤ _
      omega
end Go.Proofs.YtlihcjlonafohaaGreat
