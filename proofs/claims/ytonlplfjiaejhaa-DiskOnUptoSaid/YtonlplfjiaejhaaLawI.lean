/- Walks: two lists of operations in one. -/
import Derived.Test.YtonlplfjiaejhaaLawH
namespace Go.Proofs.Ytonlplfjiaejhaa
open Go.RowKit

/-- Operations onto which more may be appended. -/
def AO (w : World) (B : Nat) (v : Value) (ops : List O) : Prop := (∃ ad, v = .slice (some ad) 0 0 ∧ ops = []) ∨ w.ownsRow B 45 4 v ops.length (ocells ops)
theorem AO.gr {w w' : World} {B : Nat} {v : Value} {ops : List O} (h : AO w B v ops) (g : Gr w w') : AO w' B v ops := by
  rcases h with h | h
  · exact .inl h
  · exact .inr (own_gr h g)
/-- A box of a disk that is to be filled. -/
def TG (w : World) (b : Nat) : Prop := w.ownsRow 0 24 1 (.slice (some ⟨b, 0, none⟩) 1 1) 1 [.slice none 0 0]
theorem TG.new (w : World) : TG (w.alloc (.cells #[.slice none 0 0] 24)) w.heap.size := World.ownsRow_lit (base := 0) (size := 1) w #[.slice none 0 0] 1 (Nat.zero_le _) (by unfold maxLen; omega) rfl
theorem TG.new1 (w : World) (o : Obj) : TG ((w.alloc o).alloc (.cells #[.slice none 0 0] 24)) (w.heap.size + 1) := by
  have h := TG.new (w.alloc o)
  rw [show (w.alloc o).heap.size = w.heap.size + 1 by simp] at h
  exact h
theorem TG.gr {w w' : World} {b : Nat} (h : TG w b) (g : Gr w w') : TG w' b := own_gr h g
theorem TG.drew' {w : World} {b : Nat} (h : TG w b) : TG w.drew b := own_gr h (Gr.refl _).drew
theorem TG.cell {w : World} {b : Nat} (h : TG w b) : w.cell? ⟨b, 0, none⟩ = some (.slice none 0 0) := h.cellAt 0 (by decide)
theorem TG.free {w : World} {b : Nat} (h : TG w b) : w.frozen? ⟨b, 0, none⟩ = false := h.frozenAt 0
theorem run_append_ops1 (W : World) (B : Nat) (ty : TypeId) (ad : Addr) (v : Value) (ops : List O) (hv : OV W v ops) (hsz : ops.length * 48 ≤ 140737488355328) (hB : B ≤ W.heap.size) :
    ∃ A' c' w', (Builtin.append_ #[25, 25] ty #[.slice (some ad) 0 0, v]).run Try.prog W = .ok (.slice A' ops.length c') w' ∧ AO w' B (.slice A' ops.length c') ops ∧ Gr W w' := by
  obtain ⟨i0, hi, hz0, hz1, hz2⟩ := info_parts infoOp
  obtain ⟨A, c, rfl, h1, h2, h3, h4⟩ := hv.sl
  by_cases h0 : ops.length = 0
  · have he : ops = [] := List.length_eq_zero_iff.1 h0
    subst he
    refine ⟨some ad, 0, W, ?_, .inl ⟨ad, rfl, rfl⟩, Gr.refl W⟩
    have hl : ∀ x : Addr, (loadCells x 0).run Try.prog W = .ok #[] W := fun x => by simpa using run_loadCells_list (P := Try.prog) W x [] (by simp)
    cases A <;> simp [Builtin.append_, run_underlying Try.underlying25, sizeOf, typeInfo, hi, Builtin.lenOf, Builtin.firstCells, storeCells, hl]
  · have hA : ∃ a, A = some a := by
      cases A with
      | none => have := h2.2 rfl; omega
      | some a => exact ⟨a, rfl⟩
    obtain ⟨a, rfl⟩ := hA
    have hsrc : Src Try.prog i0.size 25 (.slice (some a) ops.length c) ops.length (ocells ops) W := by
      rw [hz1]
      exact Src.ofSlice W Try.underlying25 a ops.length c (ocells ops) h3 (fun j u hj => by
        obtain ⟨b, off, ha, hc⟩ := h4 j u hj
        injection ha with ha
        rw [ha, Go.WideShapes.add_plain]
        exact hc) (ocells_one ops)
    have hr := run_append_grow_src (P := Try.prog) W 25 25 ty 45 i0 _ Try.underlying25 hi hz0 (some ad) 0 0 [] (by
      rw [hz1]
      exact run_firstCells_some W.drew 4 0 ad 0 0 [] rfl (by simp)) _ ops.length (ocells ops) hsrc (by omega) (by omega) (by rw [hz2]; exact growslice_fits (by omega) (by omega))
    rw [Nat.zero_add] at hr
    have hge := grownCap_ge W ops.length 0 45
    have hcm : grownCap W ops.length 0 45 ≤ maxLen := grownCap_le_maxLen W ops.length 0 _ (by unfold maxLen; omega)
    refine ⟨_, _, _, hr, .inr ⟨h3, .inr ⟨_, _, _, rfl, hB, heap_alloc_new W.drew _, hge, hcm, ?_, ?_⟩⟩, (Gr.refl W).drew.alloc _⟩
    · have hcz : ∀ k, (Builtin.zeroCells (Value.agg #[.int .i64 0, .string ⟨#[]⟩, .string ⟨#[]⟩, .int .i64 0]).cells k).size = k * 4 := fun k => by
        have : (Value.agg #[Value.int .i64 0, .string ⟨#[]⟩, .string ⟨#[]⟩, .int .i64 0]).cells.size = 4 := by kernel_rfl
        simp [Builtin.zeroCells, this]
      rw [Array.size_append, hcz, List.size_toArray, List.nil_append, h3]
      omega
    · rw [Array.toList_append, List.nil_append, ← h3]
      exact List.take_left
theorem run_append_ops2 (W : World) (B : Nat) (ty : TypeId) (v1 v : Value) (a ops : List O) (h1 : AO W B v1 a) (hv : OV W v ops) (hsz : (a.length + ops.length) * 48 ≤ 140737488355328) (hB : B ≤ W.heap.size) :
    ∃ A' c' w', (Builtin.append_ #[25, 25] ty #[v1, v]).run Try.prog W = .ok (.slice A' (a.length + ops.length) c') w' ∧ OV w' (.slice A' (a.length + ops.length) c') (a ++ ops) ∧ Below B W w' ∧
      (∀ b, TG W b → TG w' b) := by
  rcases h1 with ⟨ad, rfl, rfl⟩ | h1
  · obtain ⟨A', c', w', hr, h2, h3⟩ := run_append_ops W ty ad v ops hv (by rw [List.length_nil, Nat.zero_add] at hsz; exact hsz)
    refine ⟨A', c', w', by rw [List.length_nil, Nat.zero_add]; exact hr, by rw [List.length_nil, Nat.zero_add, List.nil_append]; exact h2, Below.mono h3 hB, fun b h => TG.gr h h3⟩
  · obtain ⟨i0, hi, hz0, hz1, hz2⟩ := info_parts infoOp
    obtain ⟨A', c', w', hr, h2, h3, _⟩ := run_append_sl (P := Try.prog) W B 25 ty 45 i0 _ 4 48 Try.underlying25 hi hz0 hz1 hz2 rfl (by decide) v1 a.length (ocells a) h1 v ops.length (ocells ops) hv.sl (ocells_one ops) (by unfold maxLen; omega) hsz hB
    refine ⟨A', c', w', hr, ?_, Kp.below h3 hB (fun x hx => (h1.lt x hx).1), fun b h => own_kp h h3 (.inr ?_)⟩
    · have e : ocells a ++ ocells ops = ocells (a ++ ops) := by unfold ocells; rw [List.flatMap_append]
      rw [e] at h2
      have := OV.of_sl (own_sl h2)
      exact this
    · intro e
      exact own_types h (own_le h1 (Nat.zero_le B)) (by decide) rfl e.symm
section
variable {ops : Array Oper} {o : Oper} {a : Act} {W : World} {K : Act → World → Prop} {Q : Exit → Act → World → Prop} {E : Prop}
theorem step_append_ops1 (hgd : o.guard = none) (s x : Operand) (ho : o.op = .call { callee := .builtin .append, args := #[s, x], argTypes := #[25, 25] }) (B : Nat) (v : Value) (L : List O) (m : Nat) (hm : m = L.length) (hs : ∃ ad, a.eval s = .slice (some ad) 0 0) (hx : a.eval x = v) (hv : OV W v L) (hsz : m * 48 ≤ 140737488355328) (hB : B ≤ W.heap.size)
    (h : ∀ A' c' w', AO w' B (.slice A' m c') L → Gr W w' → K (a.put o.dst (.slice A' m c')) w') :
    if Region.wanted o (yielded ops a.tmps) = true then Oper.wp Try.prog o a W K Q else E := by
  have hw : Region.wanted o (yielded ops a.tmps) = true := by simp [Region.wanted, hgd]
  rw [if_pos hw]
  subst hm
  obtain ⟨ad, hs⟩ := hs
  obtain ⟨A', c', w', hr, h2, h3⟩ := run_append_ops1 W B o.type ad v L hv hsz hB
  unfold Oper.wp execOp
  simp only [ho, resolve, invoke, builtin, Sem.run_bind, Sem.run_pure, Result.andThen_ok, List.map_toArray, List.map_cons, List.map_nil, hs, hx, hr]
  exact h A' c' w' h2 h3
theorem step_append_ops2 (hgd : o.guard = none) (s x : Operand) (ho : o.op = .call { callee := .builtin .append, args := #[s, x], argTypes := #[25, 25] }) (B : Nat) (v1 v : Value) (L M : List O) (m : Nat) (hm : m = L.length + M.length) (hs : a.eval s = v1) (hx : a.eval x = v) (h1 : AO W B v1 L) (hv : OV W v M) (hsz : m * 48 ≤ 140737488355328) (hB : B ≤ W.heap.size)
    (h : ∀ A' c' w', OV w' (.slice A' m c') (L ++ M) → Below B W w' → (∀ b, TG W b → TG w' b) → K (a.put o.dst (.slice A' m c')) w') :
    if Region.wanted o (yielded ops a.tmps) = true then Oper.wp Try.prog o a W K Q else E := by
  have hw : Region.wanted o (yielded ops a.tmps) = true := by simp [Region.wanted, hgd]
  rw [if_pos hw]
  subst hm
  obtain ⟨A', c', w', hr, h2, h3, h4⟩ := run_append_ops2 W B o.type v1 v L M h1 hv hsz hB
  unfold Oper.wp execOp
  simp only [ho, resolve, invoke, builtin, Sem.run_bind, Sem.run_pure, Result.andThen_ok, List.map_toArray, List.map_cons, List.map_nil, hs, hx, hr]
  exact h A' c' w' h2 h3 h4
end
theorem DS.below {W : World} {b : Nat} {v : Value} {w1 w2 : World} (h : DS W b v w1) (q : Below W.heap.size w1 w2) : DS W b v w2 := ⟨by rw [q.cell (p := ⟨b, 0, none⟩) h.2.2]; exact h.1, Below.trans h.2.1 q, h.2.2⟩
end Go.Proofs.Ytonlplfjiaejhaa
