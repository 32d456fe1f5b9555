/- Walks: the head of a transaction's fields: readHead. -/
import Derived.Test.YteagmdnpajalgaaTxL
namespace Go.Proofs.Yteagmdnpajalgaa
open Go.RowKit Go.Joins

def numV (s : ByteArray) : Int := if s.size = 8 then (rd s.data.toList : Int) else 0
def numE (s : ByteArray) : Int := if s.size = 8 then 0 else 3
theorem readNum_all (s : ByteArray) (w : World) : Calls Try.prog 45 #[.string s] w fun e w' => e = .returned (.tuple #[.int .u64 (numV s), .int .i64 (numE s)]) ∧ w = w' := by
  unfold numV numE
  by_cases h : s.size = 8
  · rw [if_pos h, if_pos h]; exact readNum_yes s h w
  · rw [if_neg h, if_neg h]; exact readNum_no s h w
theorem numE_yes {s : ByteArray} (h : s.size = 8) : (numE s != 0) = false := by unfold numE; rw [if_pos h]; rfl
theorem numE_no {s : ByteArray} (h : ¬ s.size = 8) : (numE s != 0) = true := by unfold numE; rw [if_neg h]; rfl
/-- The head of four fields. -/
def readHeadR (a b c d : ByteArray) : Option TX :=
  if h : a.size = 1 ∧ b.size = 8 ∧ c.size = 8 ∧ d.size = 64 then some ⟨((a[0]'(by omega)).toNat : Int), rd b.data.toList, rd c.data.toList, numsR d, []⟩ else none
def noTX : TX := ⟨0, 0, 0, fun _ => 0, []⟩
def headVal (o : Option TX) : Value := .tuple #[.agg (tcs (o.getD noTX) (.slice none 0 0)), .bool o.isSome]
theorem readHead_no {a b c d : ByteArray} (h : ¬ (a.size = 1 ∧ b.size = 8 ∧ c.size = 8 ∧ d.size = 64)) : headVal (readHeadR a b c d) = .tuple #[.agg (tcs noTX (.slice none 0 0)), .bool false] := by
  unfold readHeadR
  rw [dif_neg h]
  rfl
abbrev zeroX : Array Value := #[.int .i64 0, .int .u64 0, .int .u64 0, .int .u64 0, .int .u64 0, .int .u64 0, .int .u64 0, .int .u64 0, .int .u64 0, .int .u64 0, .int .u64 0, .slice none 0 0]
theorem txbox (w : World) : ∃ W, W = w.alloc (.cells zeroX 36) ∧ Gr w W ∧ w.heap.size < W.heap.size ∧ W.heap[w.heap.size]? = some (.cells zeroX 36 (0, 0)) := by
  refine ⟨_, rfl, (Gr.refl w).alloc _, by simp, ?_⟩
  simp only [World.alloc, Array.getElem?_push]; simp
theorem vbox (w : World) (f : Nat → Nat) : ∃ W, W = w.alloc (.cells (vcells f) 33) ∧ Gr w W ∧ W.heap[w.heap.size]? = some (.cells (vcells f) 33 (0, 0)) := by
  refine ⟨_, rfl, (Gr.refl w).alloc _, ?_⟩
  simp only [World.alloc, Array.getElem?_push]; simp
/-- The eight cells of a vector's box. -/
def Eight (w : World) (g : Nat) (f : Nat → Nat) : Prop := w.cell? ⟨g, 0, none⟩ = some (.int .u64 (f 0 : Int)) ∧ w.cell? ⟨g, 1, none⟩ = some (.int .u64 (f 1 : Int)) ∧ w.cell? ⟨g, 2, none⟩ = some (.int .u64 (f 2 : Int)) ∧ w.cell? ⟨g, 3, none⟩ = some (.int .u64 (f 3 : Int)) ∧
  w.cell? ⟨g, 4, none⟩ = some (.int .u64 (f 4 : Int)) ∧ w.cell? ⟨g, 5, none⟩ = some (.int .u64 (f 5 : Int)) ∧ w.cell? ⟨g, 6, none⟩ = some (.int .u64 (f 6 : Int)) ∧ w.cell? ⟨g, 7, none⟩ = some (.int .u64 (f 7 : Int))
theorem Eight.gr {w w' : World} {g : Nat} {f : Nat → Nat} (h : Eight w g f) (q : Gr w w') : Eight w' g f := ⟨q.cell h.1, q.cell h.2.1, q.cell h.2.2.1, q.cell h.2.2.2.1, q.cell h.2.2.2.2.1, q.cell h.2.2.2.2.2.1, q.cell h.2.2.2.2.2.2.1, q.cell h.2.2.2.2.2.2.2⟩
theorem Eight.of {w : World} {g : Nat} {f : Nat → Nat} (h : w.heap[g]? = some (.cells (vcells f) 33 (0, 0))) : Eight w g f := by
  unfold Eight
  refine ⟨?_, ?_, ?_, ?_, ?_, ?_, ?_, ?_⟩ <;> (rw [cell_of_block h]; rfl)
set_option maxRecDepth 100000 in
set_option maxHeartbeats 4000000 in
theorem readHead_any (v : Value) (a b c d : ByteArray) (hds : d.size ≤ 9223372036854775807) (w : World) (hv : SV w v [a, b, c, d]) :
    Calls Try.prog 37 #[v] w fun e w' => e = .returned (headVal (readHeadR a b c d)) ∧ Gr w w' := by
  obtain ⟨g, off, cap, rfl, hc4, hcm, h4⟩ := sv4_cells hv
  clear hv
  obtain ⟨W, hW, hg, hlt, hbx⟩ := txbox w
  have hf4 : Four W g off a b c d := Four.gr h4 hg
  have HF4 := Lib.hid hf4
  have HG := Lib.hid hg
  have HBX := Lib.hid hbx
  have HLT := Lib.hid hlt
  obtain ⟨c0, c1, c2, c3⟩ := id hf4
  clear h4 hf4 hg hlt hbx
  have HN1 := Lib.hid (fun w => readNum_all b w)
  have HN2 := Lib.hid (fun w => readNum_all c w)
  have HN3 := Lib.hid (fun w => readNums_any d hds w)
  obtain ⟨D, hD⟩ : ∃ D, D = (if d.size = 64 then numsR d else fun _ => 0) := ⟨_, rfl⟩
  rw [← hD] at HN3
  clear hds
  by_cases ha : a.size = 1
  case neg =>
    have HF := Lib.hid (readHead_no (a := a) (b := b) (c := c) (d := d) (fun h => ha h.1))
    have t1 : ((a.size : Int) != 1) = true := int_bne_t (by omega)
    clear ha hD
    go_enter Try.func37, Try.ntmps37
    go_upto_region 1 with (fail)
    rw [← hW]
    clear hW
    go_wp2_with fail
    refine (HN1.out _).mono ?_
    rintro e w1 ⟨rfl, rfl⟩
    go_wp2_with fail
    refine (HN2.out _).mono ?_
    rintro e w1 ⟨rfl, rfl⟩
    go_wp2_with fail
    refine (HN3.out _).mono ?_
    rintro e w1 ⟨rfl, g1⟩
    obtain ⟨W2, hW2, hg2, hb2⟩ := vbox w1 D
    obtain ⟨d0, d1, d2, d3⟩ := (Four.gr HF4.out g1).gr hg2
    have HG2 := Lib.hid (g1.trans hg2)
    have hbx : W2.heap[w.heap.size]? = some (.cells zeroX 36 (0, 0)) := by rw [HG2.out.block _ HLT.out]; exact HBX.out
    clear g1 hg2
    go_upto_region 4 with (fail)
    rw [← hW2]
    clear hW2
    have z0 : W2.cell? ⟨w.heap.size, 0, none⟩ = some (.int .i64 0) := by rw [cell_of_block hbx]; rfl
    have z1 : W2.cell? ⟨w.heap.size, 1, none⟩ = some (.int .u64 0) := by rw [cell_of_block hbx]; rfl
    have z2 : W2.cell? ⟨w.heap.size, 2, none⟩ = some (.int .u64 0) := by rw [cell_of_block hbx]; rfl
    have z3 : W2.cell? ⟨w.heap.size, 3, none⟩ = some (.int .u64 0) := by rw [cell_of_block hbx]; rfl
    have z4 : W2.cell? ⟨w.heap.size, 4, none⟩ = some (.int .u64 0) := by rw [cell_of_block hbx]; rfl
    have z5 : W2.cell? ⟨w.heap.size, 5, none⟩ = some (.int .u64 0) := by rw [cell_of_block hbx]; rfl
    have z6 : W2.cell? ⟨w.heap.size, 6, none⟩ = some (.int .u64 0) := by rw [cell_of_block hbx]; rfl
    have z7 : W2.cell? ⟨w.heap.size, 7, none⟩ = some (.int .u64 0) := by rw [cell_of_block hbx]; rfl
    have z8 : W2.cell? ⟨w.heap.size, 8, none⟩ = some (.int .u64 0) := by rw [cell_of_block hbx]; rfl
    have z9 : W2.cell? ⟨w.heap.size, 9, none⟩ = some (.int .u64 0) := by rw [cell_of_block hbx]; rfl
    have z10 : W2.cell? ⟨w.heap.size, 10, none⟩ = some (.int .u64 0) := by rw [cell_of_block hbx]; rfl
    have z11 : W2.cell? ⟨w.heap.size, 11, none⟩ = some (.slice none 0 0) := by rw [cell_of_block hbx]; rfl
    have f0 := unfrozen_of_block hbx 0
    have f1 := unfrozen_of_block hbx 1
    have f2 := unfrozen_of_block hbx 2
    have f3 := unfrozen_of_block hbx 3
    have f4 := unfrozen_of_block hbx 4
    have f5 := unfrozen_of_block hbx 5
    have f6 := unfrozen_of_block hbx 6
    have f7 := unfrozen_of_block hbx 7
    have f8 := unfrozen_of_block hbx 8
    have f9 := unfrozen_of_block hbx 9
    have f10 := unfrozen_of_block hbx 10
    have f11 := unfrozen_of_block hbx 11
    clear hbx hb2 c0 c1 c2 c3
    go_wp2_with fail
    refine bodyPost_ret (v := .tuple #[.agg (tcs noTX (.slice none 0 0)), .bool false]) (by simp [results, Try.results37, go_sem, noTX, *]) rfl ⟨by rw [HF.out], ?_⟩
    exact (((((((((((((HG.out.trans HG2.out)).setCell (by simp) _).setCell (by simp) _).setCell (by simp) _).setCell (by simp) _).setCell (by simp) _).setCell (by simp) _).setCell (by simp) _).setCell (by simp) _).setCell (by simp) _).setCell (by simp) _).setCell (by simp) _).setCell (by simp) _
  have t1 : ((a.size : Int) != 1) = false := int_bne_f (by omega)
  by_cases hb : b.size = 8
  case neg =>
    have HF := Lib.hid (readHead_no (a := a) (b := b) (c := c) (d := d) (fun h => hb h.2.1))
    have t2 := numE_no hb
    clear ha hb hD
    go_enter Try.func37, Try.ntmps37
    go_upto_region 1 with (fail)
    rw [← hW]
    clear hW
    go_wp2_with fail
    refine (HN1.out _).mono ?_
    rintro e w1 ⟨rfl, rfl⟩
    go_wp2_with fail
    refine (HN2.out _).mono ?_
    rintro e w1 ⟨rfl, rfl⟩
    go_wp2_with fail
    refine (HN3.out _).mono ?_
    rintro e w1 ⟨rfl, g1⟩
    obtain ⟨W2, hW2, hg2, hb2⟩ := vbox w1 D
    obtain ⟨d0, d1, d2, d3⟩ := (Four.gr HF4.out g1).gr hg2
    have HG2 := Lib.hid (g1.trans hg2)
    have hbx : W2.heap[w.heap.size]? = some (.cells zeroX 36 (0, 0)) := by rw [HG2.out.block _ HLT.out]; exact HBX.out
    clear g1 hg2
    go_upto_region 4 with (fail)
    rw [← hW2]
    clear hW2
    have z0 : W2.cell? ⟨w.heap.size, 0, none⟩ = some (.int .i64 0) := by rw [cell_of_block hbx]; rfl
    have z1 : W2.cell? ⟨w.heap.size, 1, none⟩ = some (.int .u64 0) := by rw [cell_of_block hbx]; rfl
    have z2 : W2.cell? ⟨w.heap.size, 2, none⟩ = some (.int .u64 0) := by rw [cell_of_block hbx]; rfl
    have z3 : W2.cell? ⟨w.heap.size, 3, none⟩ = some (.int .u64 0) := by rw [cell_of_block hbx]; rfl
    have z4 : W2.cell? ⟨w.heap.size, 4, none⟩ = some (.int .u64 0) := by rw [cell_of_block hbx]; rfl
    have z5 : W2.cell? ⟨w.heap.size, 5, none⟩ = some (.int .u64 0) := by rw [cell_of_block hbx]; rfl
    have z6 : W2.cell? ⟨w.heap.size, 6, none⟩ = some (.int .u64 0) := by rw [cell_of_block hbx]; rfl
    have z7 : W2.cell? ⟨w.heap.size, 7, none⟩ = some (.int .u64 0) := by rw [cell_of_block hbx]; rfl
    have z8 : W2.cell? ⟨w.heap.size, 8, none⟩ = some (.int .u64 0) := by rw [cell_of_block hbx]; rfl
    have z9 : W2.cell? ⟨w.heap.size, 9, none⟩ = some (.int .u64 0) := by rw [cell_of_block hbx]; rfl
    have z10 : W2.cell? ⟨w.heap.size, 10, none⟩ = some (.int .u64 0) := by rw [cell_of_block hbx]; rfl
    have z11 : W2.cell? ⟨w.heap.size, 11, none⟩ = some (.slice none 0 0) := by rw [cell_of_block hbx]; rfl
    have f0 := unfrozen_of_block hbx 0
    have f1 := unfrozen_of_block hbx 1
    have f2 := unfrozen_of_block hbx 2
    have f3 := unfrozen_of_block hbx 3
    have f4 := unfrozen_of_block hbx 4
    have f5 := unfrozen_of_block hbx 5
    have f6 := unfrozen_of_block hbx 6
    have f7 := unfrozen_of_block hbx 7
    have f8 := unfrozen_of_block hbx 8
    have f9 := unfrozen_of_block hbx 9
    have f10 := unfrozen_of_block hbx 10
    have f11 := unfrozen_of_block hbx 11
    clear hbx hb2 c0 c1 c2 c3
    go_wp2_with fail
    refine bodyPost_ret (v := .tuple #[.agg (tcs noTX (.slice none 0 0)), .bool false]) (by simp [results, Try.results37, go_sem, noTX, *]) rfl ⟨by rw [HF.out], ?_⟩
    exact (((((((((((((HG.out.trans HG2.out)).setCell (by simp) _).setCell (by simp) _).setCell (by simp) _).setCell (by simp) _).setCell (by simp) _).setCell (by simp) _).setCell (by simp) _).setCell (by simp) _).setCell (by simp) _).setCell (by simp) _).setCell (by simp) _).setCell (by simp) _
  have t2 := numE_yes hb
  by_cases hc : c.size = 8
  case neg =>
    have HF := Lib.hid (readHead_no (a := a) (b := b) (c := c) (d := d) (fun h => hc h.2.2.1))
    have t3 := numE_no hc
    clear ha hb hc hD
    go_enter Try.func37, Try.ntmps37
    go_upto_region 1 with (fail)
    rw [← hW]
    clear hW
    go_wp2_with fail
    refine (HN1.out _).mono ?_
    rintro e w1 ⟨rfl, rfl⟩
    go_wp2_with fail
    refine (HN2.out _).mono ?_
    rintro e w1 ⟨rfl, rfl⟩
    go_wp2_with fail
    refine (HN3.out _).mono ?_
    rintro e w1 ⟨rfl, g1⟩
    obtain ⟨W2, hW2, hg2, hb2⟩ := vbox w1 D
    obtain ⟨d0, d1, d2, d3⟩ := (Four.gr HF4.out g1).gr hg2
    have HG2 := Lib.hid (g1.trans hg2)
    have hbx : W2.heap[w.heap.size]? = some (.cells zeroX 36 (0, 0)) := by rw [HG2.out.block _ HLT.out]; exact HBX.out
    clear g1 hg2
    go_upto_region 4 with (fail)
    rw [← hW2]
    clear hW2
    have z0 : W2.cell? ⟨w.heap.size, 0, none⟩ = some (.int .i64 0) := by rw [cell_of_block hbx]; rfl
    have z1 : W2.cell? ⟨w.heap.size, 1, none⟩ = some (.int .u64 0) := by rw [cell_of_block hbx]; rfl
    have z2 : W2.cell? ⟨w.heap.size, 2, none⟩ = some (.int .u64 0) := by rw [cell_of_block hbx]; rfl
    have z3 : W2.cell? ⟨w.heap.size, 3, none⟩ = some (.int .u64 0) := by rw [cell_of_block hbx]; rfl
    have z4 : W2.cell? ⟨w.heap.size, 4, none⟩ = some (.int .u64 0) := by rw [cell_of_block hbx]; rfl
    have z5 : W2.cell? ⟨w.heap.size, 5, none⟩ = some (.int .u64 0) := by rw [cell_of_block hbx]; rfl
    have z6 : W2.cell? ⟨w.heap.size, 6, none⟩ = some (.int .u64 0) := by rw [cell_of_block hbx]; rfl
    have z7 : W2.cell? ⟨w.heap.size, 7, none⟩ = some (.int .u64 0) := by rw [cell_of_block hbx]; rfl
    have z8 : W2.cell? ⟨w.heap.size, 8, none⟩ = some (.int .u64 0) := by rw [cell_of_block hbx]; rfl
    have z9 : W2.cell? ⟨w.heap.size, 9, none⟩ = some (.int .u64 0) := by rw [cell_of_block hbx]; rfl
    have z10 : W2.cell? ⟨w.heap.size, 10, none⟩ = some (.int .u64 0) := by rw [cell_of_block hbx]; rfl
    have z11 : W2.cell? ⟨w.heap.size, 11, none⟩ = some (.slice none 0 0) := by rw [cell_of_block hbx]; rfl
    have f0 := unfrozen_of_block hbx 0
    have f1 := unfrozen_of_block hbx 1
    have f2 := unfrozen_of_block hbx 2
    have f3 := unfrozen_of_block hbx 3
    have f4 := unfrozen_of_block hbx 4
    have f5 := unfrozen_of_block hbx 5
    have f6 := unfrozen_of_block hbx 6
    have f7 := unfrozen_of_block hbx 7
    have f8 := unfrozen_of_block hbx 8
    have f9 := unfrozen_of_block hbx 9
    have f10 := unfrozen_of_block hbx 10
    have f11 := unfrozen_of_block hbx 11
    clear hbx hb2 c0 c1 c2 c3
    go_wp2_with fail
    refine bodyPost_ret (v := .tuple #[.agg (tcs noTX (.slice none 0 0)), .bool false]) (by simp [results, Try.results37, go_sem, noTX, *]) rfl ⟨by rw [HF.out], ?_⟩
    exact (((((((((((((HG.out.trans HG2.out)).setCell (by simp) _).setCell (by simp) _).setCell (by simp) _).setCell (by simp) _).setCell (by simp) _).setCell (by simp) _).setCell (by simp) _).setCell (by simp) _).setCell (by simp) _).setCell (by simp) _).setCell (by simp) _).setCell (by simp) _
  have t3 := numE_yes hc
  by_cases hd : d.size = 64
  case neg =>
    have HF := Lib.hid (readHead_no (a := a) (b := b) (c := c) (d := d) (fun h => hd h.2.2.2))
    rw [decide_eq_false hd] at HN3
    clear ha hb hc hd hD
    go_enter Try.func37, Try.ntmps37
    go_upto_region 1 with (fail)
    rw [← hW]
    clear hW
    go_wp2_with fail
    refine (HN1.out _).mono ?_
    rintro e w1 ⟨rfl, rfl⟩
    go_wp2_with fail
    refine (HN2.out _).mono ?_
    rintro e w1 ⟨rfl, rfl⟩
    go_wp2_with fail
    refine (HN3.out _).mono ?_
    rintro e w1 ⟨rfl, g1⟩
    obtain ⟨W2, hW2, hg2, hb2⟩ := vbox w1 D
    obtain ⟨d0, d1, d2, d3⟩ := (Four.gr HF4.out g1).gr hg2
    have HG2 := Lib.hid (g1.trans hg2)
    have hbx : W2.heap[w.heap.size]? = some (.cells zeroX 36 (0, 0)) := by rw [HG2.out.block _ HLT.out]; exact HBX.out
    clear g1 hg2
    go_upto_region 4 with (fail)
    rw [← hW2]
    clear hW2
    have z0 : W2.cell? ⟨w.heap.size, 0, none⟩ = some (.int .i64 0) := by rw [cell_of_block hbx]; rfl
    have z1 : W2.cell? ⟨w.heap.size, 1, none⟩ = some (.int .u64 0) := by rw [cell_of_block hbx]; rfl
    have z2 : W2.cell? ⟨w.heap.size, 2, none⟩ = some (.int .u64 0) := by rw [cell_of_block hbx]; rfl
    have z3 : W2.cell? ⟨w.heap.size, 3, none⟩ = some (.int .u64 0) := by rw [cell_of_block hbx]; rfl
    have z4 : W2.cell? ⟨w.heap.size, 4, none⟩ = some (.int .u64 0) := by rw [cell_of_block hbx]; rfl
    have z5 : W2.cell? ⟨w.heap.size, 5, none⟩ = some (.int .u64 0) := by rw [cell_of_block hbx]; rfl
    have z6 : W2.cell? ⟨w.heap.size, 6, none⟩ = some (.int .u64 0) := by rw [cell_of_block hbx]; rfl
    have z7 : W2.cell? ⟨w.heap.size, 7, none⟩ = some (.int .u64 0) := by rw [cell_of_block hbx]; rfl
    have z8 : W2.cell? ⟨w.heap.size, 8, none⟩ = some (.int .u64 0) := by rw [cell_of_block hbx]; rfl
    have z9 : W2.cell? ⟨w.heap.size, 9, none⟩ = some (.int .u64 0) := by rw [cell_of_block hbx]; rfl
    have z10 : W2.cell? ⟨w.heap.size, 10, none⟩ = some (.int .u64 0) := by rw [cell_of_block hbx]; rfl
    have z11 : W2.cell? ⟨w.heap.size, 11, none⟩ = some (.slice none 0 0) := by rw [cell_of_block hbx]; rfl
    have f0 := unfrozen_of_block hbx 0
    have f1 := unfrozen_of_block hbx 1
    have f2 := unfrozen_of_block hbx 2
    have f3 := unfrozen_of_block hbx 3
    have f4 := unfrozen_of_block hbx 4
    have f5 := unfrozen_of_block hbx 5
    have f6 := unfrozen_of_block hbx 6
    have f7 := unfrozen_of_block hbx 7
    have f8 := unfrozen_of_block hbx 8
    have f9 := unfrozen_of_block hbx 9
    have f10 := unfrozen_of_block hbx 10
    have f11 := unfrozen_of_block hbx 11
    clear hbx hb2 c0 c1 c2 c3
    go_wp2_with fail
    refine bodyPost_ret (v := .tuple #[.agg (tcs noTX (.slice none 0 0)), .bool false]) (by simp [results, Try.results37, go_sem, noTX, *]) rfl ⟨by rw [HF.out], ?_⟩
    exact (((((((((((((HG.out.trans HG2.out)).setCell (by simp) _).setCell (by simp) _).setCell (by simp) _).setCell (by simp) _).setCell (by simp) _).setCell (by simp) _).setCell (by simp) _).setCell (by simp) _).setCell (by simp) _).setCell (by simp) _).setCell (by simp) _).setCell (by simp) _
  rw [decide_eq_true hd] at HN3
  have ha0 : 0 < a.size := by omega
  have ha0' : (0 : Int) < (a.size : Int) := by omega
  obtain ⟨kd, hkd⟩ : ∃ x, x = (a[0]).toNat := ⟨_, rfl⟩
  have hw1 : IntKind.i64.wrap ((kd : Nat) : Int) = (kd : Int) := by
    have := (a[0]).toNat_lt
    rw [← hkd] at this
    rw [IntKind.wrap_i64]
    omega
  obtain ⟨sq, hsq⟩ : ∃ x, x = rd b.data.toList := ⟨_, rfl⟩
  obtain ⟨st, hst⟩ : ∃ x, x = rd c.data.toList := ⟨_, rfl⟩
  have hD2 : D = numsR d := by rw [hD, if_pos hd]
  have HF := Lib.hid (show headVal (readHeadR a b c d) = .tuple #[.agg (tcs ⟨(kd : Int), sq, st, D, []⟩ (.slice none 0 0)), .bool true] by unfold readHeadR; rw [dif_pos ⟨ha, hb, hc, hd⟩, hkd, hsq, hst, hD2]; rfl)
  rw [show numV b = (sq : Int) by unfold numV; rw [if_pos hb, hsq]] at HN1
  rw [show numV c = (st : Int) by unfold numV; rw [if_pos hc, hst]] at HN2
  clear ha hb hc hd hD hsq hst hD2
  go_enter Try.func37, Try.ntmps37
  go_upto_region 1 with (fail)
  rw [← hW]
  clear hW
  go_wp2_with fail
  refine (HN1.out _).mono ?_
  rintro e w1 ⟨rfl, rfl⟩
  go_wp2_with fail
  refine (HN2.out _).mono ?_
  rintro e w1 ⟨rfl, rfl⟩
  go_wp2_with fail
  refine (HN3.out _).mono ?_
  rintro e w1 ⟨rfl, g1⟩
  obtain ⟨W2, hW2, hg2, hb2⟩ := vbox w1 D
  obtain ⟨d0, d1, d2, d3⟩ := (Four.gr HF4.out g1).gr hg2
  have HG2 := Lib.hid (g1.trans hg2)
  have hbx : W2.heap[w.heap.size]? = some (.cells zeroX 36 (0, 0)) := by rw [HG2.out.block _ HLT.out]; exact HBX.out
  clear g1 hg2
  go_upto_region 4 with (fail)
  rw [← hW2]
  clear hW2
  have HS : Hid (Four W2.drew g off a b c d ∧ Eight W2.drew w1.heap.size D ∧ Gr W2 W2.drew) := Lib.hid ⟨Four.gr ⟨d0, d1, d2, d3⟩ (Gr.refl _).drew, Eight.gr (Eight.of hb2) (Gr.refl _).drew, (Gr.refl _).drew⟩
  have HBX2 := Lib.hid hbx
  have HLT2 := Lib.hid (show w.heap.size < W2.heap.size from (Array.getElem?_eq_some_iff.1 hbx).1)
  clear hbx hb2 c0 c1 c2 c3
  go_upto_region 6 with (fail)
  clear d0 d1 d2 d3
  refine qTail 9 (fun w' => Four w' g off a b c d ∧ Eight w' w1.heap.size D ∧ Gr W2 w') (by kernel_rfl) (by kernel_rfl) HS.out ?_
  simp only [List.take_succ_cons, List.take_zero, List.drop_succ_cons, List.drop_zero]
  iterate 9
    refine qTake (by kernel_rfl) ?_
    apply Exists.intro
    refine ⟨fun wq hq => ?_, ?_⟩
    · go_light
      obtain ⟨⟨h0, h1, h2, h3⟩, ⟨k0, k1, k2, k3, k4, k5, k6, k7⟩, -⟩ := hq
      go_simp
      try with_reducible rfl
      done
    try simp only [Act.put, List.setIfInBounds_toArray, List.set_cons_zero, List.set_cons_succ]
  refine qNil ?_
  intro w3 hC
  have hbx : w3.heap[w.heap.size]? = some (.cells zeroX 36 (0, 0)) := by rw [hC.2.2.block _ HLT2.out]; exact HBX2.out
  have HG3 := Lib.hid ((HG.out.trans HG2.out).trans hC.2.2)
  have z0 : w3.cell? ⟨w.heap.size, 0, none⟩ = some (.int .i64 0) := by rw [cell_of_block hbx]; rfl
  have z1 : w3.cell? ⟨w.heap.size, 1, none⟩ = some (.int .u64 0) := by rw [cell_of_block hbx]; rfl
  have z2 : w3.cell? ⟨w.heap.size, 2, none⟩ = some (.int .u64 0) := by rw [cell_of_block hbx]; rfl
  have z3 : w3.cell? ⟨w.heap.size, 3, none⟩ = some (.int .u64 0) := by rw [cell_of_block hbx]; rfl
  have z4 : w3.cell? ⟨w.heap.size, 4, none⟩ = some (.int .u64 0) := by rw [cell_of_block hbx]; rfl
  have z5 : w3.cell? ⟨w.heap.size, 5, none⟩ = some (.int .u64 0) := by rw [cell_of_block hbx]; rfl
  have z6 : w3.cell? ⟨w.heap.size, 6, none⟩ = some (.int .u64 0) := by rw [cell_of_block hbx]; rfl
  have z7 : w3.cell? ⟨w.heap.size, 7, none⟩ = some (.int .u64 0) := by rw [cell_of_block hbx]; rfl
  have z8 : w3.cell? ⟨w.heap.size, 8, none⟩ = some (.int .u64 0) := by rw [cell_of_block hbx]; rfl
  have z9 : w3.cell? ⟨w.heap.size, 9, none⟩ = some (.int .u64 0) := by rw [cell_of_block hbx]; rfl
  have z10 : w3.cell? ⟨w.heap.size, 10, none⟩ = some (.int .u64 0) := by rw [cell_of_block hbx]; rfl
  have z11 : w3.cell? ⟨w.heap.size, 11, none⟩ = some (.slice none 0 0) := by rw [cell_of_block hbx]; rfl
  have f0 := unfrozen_of_block hbx 0
  have f1 := unfrozen_of_block hbx 1
  have f2 := unfrozen_of_block hbx 2
  have f3 := unfrozen_of_block hbx 3
  have f4 := unfrozen_of_block hbx 4
  have f5 := unfrozen_of_block hbx 5
  have f6 := unfrozen_of_block hbx 6
  have f7 := unfrozen_of_block hbx 7
  have f8 := unfrozen_of_block hbx 8
  have f9 := unfrozen_of_block hbx 9
  have f10 := unfrozen_of_block hbx 10
  have f11 := unfrozen_of_block hbx 11
  rw [← hkd] at *
  clear hC HS hbx hkd
  go_wp2_with fail
  refine bodyPost_ret (v := .tuple #[.agg (tcs ⟨(kd : Int), sq, st, D, []⟩ (.slice none 0 0)), .bool true]) (by simp [results, Try.results37, go_sem, *]) rfl ⟨by rw [HF.out], ?_⟩
  exact ((((((((((((HG3.out).setCell (by simp) _).setCell (by simp) _).setCell (by simp) _).setCell (by simp) _).setCell (by simp) _).setCell (by simp) _).setCell (by simp) _).setCell (by simp) _).setCell (by simp) _).setCell (by simp) _).setCell (by simp) _).setCell (by simp) _
end Go.Proofs.Yteagmdnpajalgaa
