/- Walks: the operations and the head of a transaction's fields: readOp, readHead. -/
import Derived.Test.YteagmdnpajalgaaTxK
namespace Go.Proofs.Yteagmdnpajalgaa
open Go.RowKit Go.Joins

/-- The operation of four fields. -/
def readOpR (a b c d : ByteArray) : Option TO :=
  if h : a.size = 1 ∧ d.size = 8 then some ⟨((a[0]'(by omega)).toNat : Int), b, c, IntKind.i64.wrap (rd d.data.toList : Int)⟩ else none
def noTO : TO := ⟨0, ⟨#[]⟩, ⟨#[]⟩, 0⟩
def opVal (o : Option TO) : Value := .tuple #[.agg (tovs (o.getD noTO)), .bool o.isSome]
theorem sv4_cells {w : World} {v : Value} {a b c d : ByteArray} (h : SV w v [a, b, c, d]) : ∃ g off cap, v = .slice (some ⟨g, off, none⟩) 4 cap ∧ 4 ≤ cap ∧ cap ≤ 9223372036854775807 ∧ w.cell? ⟨g, off, none⟩ = some (.string a) ∧ w.cell? ⟨g, off + 1, none⟩ = some (.string b) ∧ w.cell? ⟨g, off + 2, none⟩ = some (.string c) ∧ w.cell? ⟨g, off + 3, none⟩ = some (.string d) := by
  obtain ⟨A, cap, rfl, h1, ⟨h2, _⟩, h3⟩ := h
  obtain ⟨g, off, rfl, c0⟩ := h3 0 (by simp)
  refine ⟨g, off, cap, rfl, h1, h2, c0, ?_, ?_, ?_⟩
  · obtain ⟨g', off', e, c1⟩ := h3 1 (by simp)
    injection e with e; injection e with e1 e2; subst e1 e2; exact c1
  · obtain ⟨g', off', e, c1⟩ := h3 2 (by simp)
    injection e with e; injection e with e1 e2; subst e1 e2; exact c1
  · obtain ⟨g', off', e, c1⟩ := h3 3 (by simp)
    injection e with e; injection e with e1 e2; subst e1 e2; exact c1
theorem opbox (w : World) : ∃ W, W = w.alloc (.cells #[.int .i64 0, .string ⟨#[]⟩, .string ⟨#[]⟩, .int .i64 0] 23) ∧ Gr w W ∧ w.heap.size < W.heap.size ∧ W.heap[w.heap.size]? = some (.cells #[.int .i64 0, .string ⟨#[]⟩, .string ⟨#[]⟩, .int .i64 0] 23 (0, 0)) := by
  refine ⟨_, rfl, (Gr.refl w).alloc _, by simp, ?_⟩
  simp only [World.alloc, Array.getElem?_push]; simp
def Four (w : World) (g off : Nat) (a b c d : ByteArray) : Prop := w.cell? ⟨g, off, none⟩ = some (.string a) ∧ w.cell? ⟨g, off + 1, none⟩ = some (.string b) ∧ w.cell? ⟨g, off + 2, none⟩ = some (.string c) ∧ w.cell? ⟨g, off + 3, none⟩ = some (.string d)
theorem Four.gr {w w' : World} {g off : Nat} {a b c d : ByteArray} (h : Four w g off a b c d) (q : Gr w w') : Four w' g off a b c d := ⟨q.cell h.1, q.cell h.2.1, q.cell h.2.2.1, q.cell h.2.2.2⟩
set_option maxRecDepth 100000 in
set_option maxHeartbeats 2000000 in
theorem readOp_any (v : Value) (a b c d : ByteArray) (w : World) (hv : SV w v [a, b, c, d]) :
    Calls Try.prog 39 #[v] w fun e w' => e = .returned (opVal (readOpR a b c d)) ∧ Gr w w' := by
  obtain ⟨g, off, cap, rfl, hc4, hcm, h4⟩ := sv4_cells hv
  clear hv
  obtain ⟨W, hW, hg, hlt, hbx⟩ := opbox w
  have hf4 : Four W g off a b c d := Four.gr h4 hg
  have HF4 := Lib.hid hf4
  have HG := Lib.hid hg
  have HBX := Lib.hid hbx
  have HLT := Lib.hid hlt
  obtain ⟨c0, c1, c2, c3⟩ := id hf4
  clear h4 hf4 hg hlt
  have q0 : W.cell? ⟨w.heap.size, 0, none⟩ = some (.int .i64 0) := by rw [cell_of_block hbx]; rfl
  have q1 : W.cell? ⟨w.heap.size, 1, none⟩ = some (.string ⟨#[]⟩) := by rw [cell_of_block hbx]; rfl
  have q2 : W.cell? ⟨w.heap.size, 2, none⟩ = some (.string ⟨#[]⟩) := by rw [cell_of_block hbx]; rfl
  have q3 : W.cell? ⟨w.heap.size, 3, none⟩ = some (.int .i64 0) := by rw [cell_of_block hbx]; rfl
  have f0 := unfrozen_of_block hbx 0
  have f1 := unfrozen_of_block hbx 1
  have f2 := unfrozen_of_block hbx 2
  have f3 := unfrozen_of_block hbx 3
  clear hbx
  by_cases hd : d.size = 8
  case neg =>
    have HN := Lib.hid (fun w => readNum_no d hd w)
    have HF := Lib.hid (show opVal (readOpR a b c d) = .tuple #[.agg (tovs noTO), .bool false] by unfold readOpR; rw [dif_neg (fun h => hd h.2)]; rfl)
    clear hd
    by_cases ha : a.size = 1
    · have t1 : ((a.size : Int) != 1) = false := int_bne_f (by omega)
      clear ha
      go_enter Try.func39, Try.ntmps39
      go_upto_region 1 with (fail)
      rw [← hW]
      clear hW
      go_wp2_with fail
      refine (HN.out _).mono ?_
      rintro e w1 ⟨rfl, rfl⟩
      go_wp2_with fail
      refine bodyPost_ret (v := .tuple #[.agg (tovs noTO), .bool false]) (by simp [results, Try.results39, go_sem, tovs, noTO, *]) rfl ⟨by rw [HF.out], ?_⟩
      exact ((((HG.out.setCell (by simp) _).setCell (by simp) _).setCell (by simp) _).setCell (by simp) _)
    · have t1 : ((a.size : Int) != 1) = true := int_bne_t (by omega)
      clear ha
      go_enter Try.func39, Try.ntmps39
      go_upto_region 1 with (fail)
      rw [← hW]
      clear hW
      go_wp2_with fail
      refine (HN.out _).mono ?_
      rintro e w1 ⟨rfl, rfl⟩
      go_wp2_with fail
      refine bodyPost_ret (v := .tuple #[.agg (tovs noTO), .bool false]) (by simp [results, Try.results39, go_sem, tovs, noTO, *]) rfl ⟨by rw [HF.out], ?_⟩
      exact ((((HG.out.setCell (by simp) _).setCell (by simp) _).setCell (by simp) _).setCell (by simp) _)
  have HN := Lib.hid (fun w => readNum_yes d hd w)
  by_cases ha : a.size = 1
  case neg =>
    have HF := Lib.hid (show opVal (readOpR a b c d) = .tuple #[.agg (tovs noTO), .bool false] by unfold readOpR; rw [dif_neg (fun h => ha h.1)]; rfl)
    have t1 : ((a.size : Int) != 1) = true := int_bne_t (by omega)
    clear hd ha
    go_enter Try.func39, Try.ntmps39
    go_upto_region 1 with (fail)
    rw [← hW]
    clear hW
    go_wp2_with fail
    refine (HN.out _).mono ?_
    rintro e w1 ⟨rfl, rfl⟩
    go_wp2_with fail
    refine bodyPost_ret (v := .tuple #[.agg (tovs noTO), .bool false]) (by simp [results, Try.results39, go_sem, tovs, noTO, *]) rfl ⟨by rw [HF.out], ?_⟩
    exact ((((HG.out.setCell (by simp) _).setCell (by simp) _).setCell (by simp) _).setCell (by simp) _)
  have ha0 : 0 < a.size := by omega
  have ha0' : (0 : Int) < (a.size : Int) := by omega
  have t1 : ((a.size : Int) != 1) = false := int_bne_f (by omega)
  obtain ⟨kd, hkd⟩ : ∃ x, x = (a[0]).toNat := ⟨_, rfl⟩
  obtain ⟨nn, hnn⟩ : ∃ x, x = IntKind.i64.wrap (rd d.data.toList : Int) := ⟨_, rfl⟩
  obtain ⟨rn, hrn⟩ : ∃ x, x = rd d.data.toList := ⟨_, rfl⟩
  rw [← hrn] at HN
  have hw1 : IntKind.i64.wrap ((kd : Nat) : Int) = (kd : Int) := by
    have := (a[0]).toNat_lt
    rw [← hkd] at this
    rw [IntKind.wrap_i64]
    omega
  have hw2 : IntKind.i64.wrap (rn : Int) = nn := by rw [hrn, hnn]
  have HF := Lib.hid (show opVal (readOpR a b c d) = .tuple #[.agg (tovs ⟨(kd : Int), b, c, nn⟩), .bool true] by unfold readOpR; rw [dif_pos ⟨ha, hd⟩, hkd, hnn]; rfl)
  have HS : Hid (Four W.drew g off a b c d ∧ Gr W W.drew) := Lib.hid ⟨Four.gr HF4.out (Gr.refl _).drew, (Gr.refl _).drew⟩
  clear hd ha hnn hrn
  go_enter Try.func39, Try.ntmps39
  go_upto_region 1 with (fail)
  rw [← hW]
  clear hW
  go_wp2_with fail
  refine (HN.out _).mono ?_
  rintro e w1 ⟨rfl, rfl⟩
  go_upto_region 4 with (fail)
  clear c0 c1 c2 c3 q0 q1 q2 q3 f0 f1 f2 f3
  refine qTail 14 (fun w' => Four w' g off a b c d ∧ Gr W w') (by kernel_rfl) (by kernel_rfl) HS.out ?_
  simp only [List.take_succ_cons, List.take_zero, List.drop_succ_cons, List.drop_zero]
  iterate 14
    refine qTake (by kernel_rfl) ?_
    apply Exists.intro
    refine ⟨fun wq hq => ?_, ?_⟩
    · go_light
      obtain ⟨⟨h0, h1, h2, h3⟩, -⟩ := hq
      go_simp
      try with_reducible rfl
      done
    try simp only [Act.put, List.setIfInBounds_toArray, List.set_cons_zero, List.set_cons_succ]
  refine qNil ?_
  intro w3 hC
  have hbx : w3.heap[w.heap.size]? = some (.cells #[.int .i64 0, .string ⟨#[]⟩, .string ⟨#[]⟩, .int .i64 0] 23 (0, 0)) := by rw [hC.2.block _ HLT.out]; exact HBX.out
  have HG3 := Lib.hid (HG.out.trans hC.2)
  have q0 : w3.cell? ⟨w.heap.size, 0, none⟩ = some (.int .i64 0) := by rw [cell_of_block hbx]; rfl
  have q1 : w3.cell? ⟨w.heap.size, 1, none⟩ = some (.string ⟨#[]⟩) := by rw [cell_of_block hbx]; rfl
  have q2 : w3.cell? ⟨w.heap.size, 2, none⟩ = some (.string ⟨#[]⟩) := by rw [cell_of_block hbx]; rfl
  have q3 : w3.cell? ⟨w.heap.size, 3, none⟩ = some (.int .i64 0) := by rw [cell_of_block hbx]; rfl
  have f0 := unfrozen_of_block hbx 0
  have f1 := unfrozen_of_block hbx 1
  have f2 := unfrozen_of_block hbx 2
  have f3 := unfrozen_of_block hbx 3
  rw [← hkd] at *
  clear hC HS hbx hkd
  go_wp2_with fail
  refine bodyPost_ret (v := .tuple #[.agg (tovs ⟨(kd : Int), b, c, nn⟩), .bool true]) (by simp [results, Try.results39, go_sem, tovs, *]) rfl ⟨by rw [HF.out], ?_⟩
  exact ((((HG3.out.setCell (by simp) _).setCell (by simp) _).setCell (by simp) _).setCell (by simp) _)
end Go.Proofs.Yteagmdnpajalgaa
