/- Walks: the laws' own copies of the operations. -/
import Derived.Test.YtonlplfjiaejhaaLawB
import Derived.Deep.AppendSrc
namespace Go.Proofs.Ytonlplfjiaejhaa
open Go.RowKit

theorem infoOp : (Try.prog.info? 45).map (fun i => (i.zero, i.size, i.bytes)) = some (some (.agg #[.int .i64 0, .string ⟨#[]⟩, .string ⟨#[]⟩, .int .i64 0]), 4, 48) := by kernel_rfl
theorem ocells_one (ops : List O) : ∀ u ∈ ocells ops, u.oneCell' = true := by
  intro u hu
  obtain ⟨o, _, hu⟩ := List.mem_flatMap.1 hu
  unfold ocell at hu
  simp only [List.mem_cons, List.not_mem_nil, or_false] at hu
  rcases hu with rfl | rfl | rfl | rfl <;> rfl
theorem run_append_ops (W : World) (ty : TypeId) (ad : Addr) (v : Value) (ops : List O) (hv : OV W v ops) (hsz : ops.length * 48 ≤ 140737488355328) :
    ∃ A' c' w', (Builtin.append_ #[25, 25] ty #[.slice (some ad) 0 0, v]).run Try.prog W = .ok (.slice A' ops.length c') w' ∧ OV w' (.slice A' ops.length c') ops ∧ Gr W w' := by
  obtain ⟨i0, hi, hz0, hz1, hz2⟩ := info_parts infoOp
  obtain ⟨A, c, rfl, h1, h2, h3, h4⟩ := hv.sl
  by_cases h0 : ops.length = 0
  · have he : ops = [] := List.length_eq_zero_iff.1 h0
    subst he
    refine ⟨some ad, 0, W, ?_, ⟨some ad, 0, rfl, Nat.le_refl _, ⟨Nat.zero_le _, fun h => by cases h⟩, fun j hj => absurd hj (by simp)⟩, Gr.refl W⟩
    have hl : ∀ x : Addr, (loadCells x 0).run Try.prog W = .ok #[] W := fun x => by simpa using run_loadCells_list (P := Try.prog) W x [] (by simp)
    cases A <;> simp [Builtin.append_, run_underlying Try.underlying25, sizeOf, typeInfo, hi, Builtin.lenOf, Builtin.firstCells, storeCells, hl]
  · have hA : ∃ a, A = some a := by
      cases A with
      | none => have := h2.2 rfl; omega
      | some a => exact ⟨a, rfl⟩
    obtain ⟨a, rfl⟩ := hA
    have hsrc : Src Try.prog i0.size 25 (.slice (some a) ops.length c) ops.length (ocells ops) W := by
      rw [hz1]
      exact Src.ofSlice W Try.underlying25 a ops.length c (ocells ops) h3 (fun j u hj => by
        obtain ⟨b, off, ha, hc⟩ := h4 j u hj
        injection ha with ha
        rw [ha, Go.WideShapes.add_plain]
        exact hc) (ocells_one ops)
    have hr := run_append_grow_src (P := Try.prog) W 25 25 ty 45 i0 _ Try.underlying25 hi hz0 (some ad) 0 0 [] (by
      rw [hz1]
      exact run_firstCells_some W.drew 4 0 ad 0 0 [] rfl (by simp)) _ ops.length (ocells ops) hsrc (by omega) (by omega) (by rw [hz2]; exact growslice_fits (by omega) (by omega))
    rw [Nat.zero_add] at hr
    have hge := grownCap_ge W ops.length 0 45
    have hcm : grownCap W ops.length 0 45 ≤ maxLen := grownCap_le_maxLen W ops.length 0 _ (by unfold maxLen; omega)
    refine ⟨_, _, _, hr, OV.of_sl (own_sl (B := 0) (e := 45) (n := ops.length) ⟨h3, .inr ⟨_, _, _, rfl, Nat.zero_le _, heap_alloc_new W.drew _, hge, hcm, ?_, ?_⟩⟩), (Gr.refl W).drew.alloc _⟩
    · have hcz : ∀ k, (Builtin.zeroCells (Value.agg #[.int .i64 0, .string ⟨#[]⟩, .string ⟨#[]⟩, .int .i64 0]).cells k).size = k * 4 := fun k => by
        have : (Value.agg #[Value.int .i64 0, .string ⟨#[]⟩, .string ⟨#[]⟩, .int .i64 0]).cells.size = 4 := by kernel_rfl
        simp [Builtin.zeroCells, this]
      rw [Array.size_append, hcz, List.size_toArray, List.nil_append, h3]
      omega
    · rw [Array.toList_append, List.nil_append, ← h3]
      exact List.take_left
theorem step_append_ops {ops : Array Oper} {o : Oper} {a : Act} {W : World} {K : Act → World → Prop} {Q : Exit → Act → World → Prop} {E : Prop} (hgd : o.guard = none) (s x : Operand)
    (ho : o.op = .call { callee := .builtin .append, args := #[s, x], argTypes := #[25, 25] }) (v : Value) (L : List O) (m : Nat) (hm : m = L.length) (hs : ∃ ad, a.eval s = .slice (some ad) 0 0) (hx : a.eval x = v) (hv : OV W v L) (hsz : m * 48 ≤ 140737488355328)
    (h : ∀ A' c' w', OV w' (.slice A' m c') L → Gr W w' → K (a.put o.dst (.slice A' m c')) w') :
    if Region.wanted o (yielded ops a.tmps) = true then Oper.wp Try.prog o a W K Q else E := by
  have hw : Region.wanted o (yielded ops a.tmps) = true := by simp [Region.wanted, hgd]
  rw [if_pos hw]
  subst hm
  obtain ⟨ad, hs⟩ := hs
  obtain ⟨A', c', w', hr, h2, h3⟩ := run_append_ops W o.type ad v L hv hsz
  unfold Oper.wp execOp
  simp only [ho, resolve, invoke, builtin, Sem.run_bind, Sem.run_pure, Result.andThen_ok, List.map_toArray, List.map_cons, List.map_nil, hs, hx, hr]
  exact h A' c' w' h2 h3
end Go.Proofs.Ytonlplfjiaejhaa
