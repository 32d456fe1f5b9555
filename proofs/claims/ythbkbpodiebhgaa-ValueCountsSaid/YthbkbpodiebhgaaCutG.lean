/- Walks: slices.Clip of transactions; the program's Add. -/
import Derived.Test.YthbkbpodiebhgaaCutF
import Derived.ArgAppend
namespace Go.Proofs.Ythbkbpodiebhgaa
open Go.RowKit Go.Joins
set_option linter.unusedSimpArgs false
set_option linter.unusedVariables false

set_option maxRecDepth 100000 in
theorem slice3_txs (A : Option Addr) {n c : Nat} (hk : n ≤ c) (W : World) : (Instr.slice 22 (.slice A n c) none (some (.int .i64 (n : Int))) (some (.int .i64 (n : Int)))).run Try.prog W = .ok (.slice A n n) W := by
  have hz : ∀ W : World, (sizeOf (Try.prog.elem 22)).run Try.prog W = .ok 12 W := fun W => by show _ = _; kernel_rfl
  rw [run_slice_hm W _ A n c Try.underlying22 .i64 .i64 (n : Int) (n : Int) (by omega) (by omega) (by omega), hz]
  show Result.ok (sliced A 0 (n : Int).toNat (n : Int).toNat 12) W = _
  unfold sliced
  rw [Int.toNat_natCast]
  cases A with
  | none => simp
  | some a => simp [Addr.add]
set_option maxRecDepth 100000 in
/-- append of one transaction to a slice without room: it comes to new memory. -/
theorem step_append_clip {ops : Array Oper} {o : Oper} {a : Act} {K : Act → World → Prop} {Q : Exit → Act → World → Prop} {E : Prop} {W : World} (hgd : o.guard = none) (s x : Operand)
    (ho : o.op = .call { callee := .builtin .append, args := #[s, x], argTypes := #[22, 22] })
    (A : Option Addr) (n bn : Nat) (R : List TR) (t : TR) (hs : a.eval s = .slice A n n) (hx : a.eval x = .slice (some ⟨bn, 0, none⟩) 1 1) (hR : SL W 12 (.slice A n n) n (trs R)) (ht : XFix W bn 0 t.1 t.2.v)
    (hlen : (n + 1) * 112 ≤ 140737488355328)
    (h : ∀ A' c' w', w'.ownsRow W.heap.size 44 12 (.slice A' (n + 1) c') (n + 1) (trs (R ++ [t])) → Gr W w' → K (a.put o.dst (.slice A' (n + 1) c')) w') :
    if Region.wanted o (yielded ops a.tmps) = true then Oper.wp Try.prog o a W K Q else E := by
  have hw : Region.wanted o (yielded ops a.tmps) = true := by simp [Region.wanted, hgd]
  rw [if_pos hw]
  obtain ⟨i0, hi, hz0, hz1, hz2⟩ := info_parts infoTxn
  have hnews : ∀ j u, (trcells t)[j]? = some u → W.cell? ((⟨bn, 0, none⟩ : Addr).add j) = some u := fun j u hu => by
    have hj : j < 12 := by have := (List.getElem?_eq_some_iff.1 hu).1; rw [trcells_len] at this; exact this
    obtain ⟨x0, x1, x2, x3, x4, x5, x6, x7, x8, x9, x10, x11⟩ := ht
    rw [Go.WideShapes.add_plain]
    match j, hj with
    | 0, _ => injection hu with hu; rw [← hu]; exact x0
    | 1, _ => injection hu with hu; rw [← hu]; exact x1
    | 2, _ => injection hu with hu; rw [← hu]; exact x2
    | 3, _ => injection hu with hu; rw [← hu]; exact x3
    | 4, _ => injection hu with hu; rw [← hu]; exact x4
    | 5, _ => injection hu with hu; rw [← hu]; exact x5
    | 6, _ => injection hu with hu; rw [← hu]; exact x6
    | 7, _ => injection hu with hu; rw [← hu]; exact x7
    | 8, _ => injection hu with hu; rw [← hu]; exact x8
    | 9, _ => injection hu with hu; rw [← hu]; exact x9
    | 10, _ => injection hu with hu; rw [← hu]; exact x10
    | 11, _ => injection hu with hu; rw [← hu]; exact x11
  have happ : trs (R ++ [t]) = trs R ++ trcells t := by unfold trs; rw [List.flatMap_append]; simp
  have run : ∃ v' w', (Builtin.append_ #[22, 22] o.type #[.slice A n n, .slice (some ⟨bn, 0, none⟩) 1 1]).run Try.prog W = .ok v' w' ∧ w'.ownsRow W.heap.size 44 12 v' (n + 1) (trs R ++ trcells t) ∧ W.grownBy w' none := by
    obtain ⟨A', c', hv, h1, ⟨h2, h3⟩, h4, h5⟩ := hR
    injection hv with e1 e2 e3
    subst e1 e3
    cases A with
    | none =>
      obtain rfl : n = 0 := h3 rfl
      have hnil : trs R = [] := List.length_eq_zero_iff.1 (by rw [h4, Nat.zero_mul])
      rw [hnil]
      have h6 : (1 : Nat) * 112 ≤ 140737488355328 := by omega
      obtain ⟨v', w', hr, g1, g2, _⟩ := run_append_own_at (P := Try.prog) W W.heap.size 22 o.type 44 i0 _ 12 112 Try.underlying22 hi hz0 hz1 hz2 rfl (by decide) (.slice none 0 0) 0 [] (World.ownsRow_nil W _ _ _) ⟨bn, 0, none⟩ 1 1 (trcells t) rfl hnews (fun u hu => trs_one [t] u (by simpa [trs] using hu)) (by decide) (by omega) (Nat.le_refl _)
      exact ⟨v', w', hr, g1, g2⟩
    | some ad =>
      refine run_append_arg_grows (P := Try.prog) (w := W) 22 o.type 44 i0 _ 12 112 Try.underlying22 hi hz0 hz1 hz2 rfl (by decide) ad n n (trs R) h4 (fun j u hu => ?_) ⟨bn, 0, none⟩ 1 1 (trcells t) rfl hnews (by omega) (by unfold maxLen; omega) hlen
      obtain ⟨b, off, ha, hc⟩ := h5 j u hu
      injection ha with ha
      subst ha
      rw [Go.WideShapes.add_plain]
      exact hc
  obtain ⟨v', w', hr, h1, h2⟩ := run
  obtain ⟨A', c', rfl, _⟩ := own_form h1
  unfold Oper.wp execOp
  simp only [ho, resolve, invoke, builtin, Sem.run_bind, Sem.run_pure, Result.andThen_ok, List.map_toArray, List.map_cons, List.map_nil, hs, hx, hr]
  exact h A' c' w' (by rw [happ]; exact h1) ⟨h2.1, h2.2, h2.3, h2.4, fun k hk => h2.5 k hk (by intro e; cases e)⟩
def nilL : LG := fun _ => []
abbrev zlc : Array Value := #[.slice none 0 0, .slice none 0 0, .slice none 0 0, .slice none 0 0, .slice none 0 0, .slice none 0 0, .slice none 0 0, .slice none 0 0]
def Z3 : Nat → S3 := fun _ => ⟨none, 0, 0⟩
theorem XV.nil (w : World) : XV w (.slice none 0 0) [] := ⟨none, 0, rfl, Nat.le_refl _, ⟨Nat.zero_le _, fun _ => rfl⟩, fun j hj => absurd hj (by simp)⟩
theorem LV.nil (w : World) : LV w Z3 nilL := fun _ _ => XV.nil w
theorem LN.nil (w : World) (B : Nat) : LN w B Z3 nilL := fun _ _ => ⟨[], rfl, World.ownsRow_nil w _ _ _, fun r hr => by cases hr⟩
/-- What Add answers: its error, its logs. -/
def addR (l : LG) (t : TX) : Nat × LG :=
  if okTx t then
    if t.seq ≤ (l t.origin.toNat).length then
      match (l t.origin.toNat)[t.seq - 1]? with
      | some x => if sameT x t = true then (0, l) else (91, nilL)
      | none => (91, nilL)
    else if behindE l t = 0 then (if (l t.origin.toNat).length < 1024 then (0, addL l t.origin.toNat t) else (4, nilL)) else (behindE l t, nilL)
  else (80, nilL)
theorem boxesAd (u : Nat → S3) (t : TX) (v : Value) (w : World) : ∃ W, W = ((w.alloc (.cells (lcells u) 24)).alloc (.cells (tcs t v) 44)).alloc (.cells zlc 24) ∧ Gr w W ∧ W.heap.size = w.heap.size + 3 ∧
    LBox W w.heap.size u ∧ XFix W (w.heap.size + 1) 0 t v ∧ LBox W (w.heap.size + 1 + 1) Z3 := by
  obtain ⟨W, hW, hg, hs, hL, hX⟩ := boxesLT u t v w
  rw [← hW]
  have e : (w.alloc (.cells (lcells u) 24)).heap.size = w.heap.size + 1 := by simp
  refine ⟨_, rfl, hg.alloc _, by simp [hs], hL.gr ((Gr.refl _).alloc _), hX.gr ((Gr.refl _).alloc _), ⟨?_⟩⟩
  have h := heap_alloc W zlc 24
  rw [hs] at h
  exact h

theorem LBox.zero {w : World} {b : Nat} (h : LBox w b Z3) : w.cell? ⟨b, 0, none⟩ = some (.slice none 0 0) ∧ w.cell? ⟨b, 1, none⟩ = some (.slice none 0 0) ∧ w.cell? ⟨b, 2, none⟩ = some (.slice none 0 0) ∧ w.cell? ⟨b, 3, none⟩ = some (.slice none 0 0) ∧ w.cell? ⟨b, 4, none⟩ = some (.slice none 0 0) ∧ w.cell? ⟨b, 5, none⟩ = some (.slice none 0 0) ∧ w.cell? ⟨b, 6, none⟩ = some (.slice none 0 0) ∧ w.cell? ⟨b, 7, none⟩ = some (.slice none 0 0) := h.all
theorem XFix.far {w : World} {b off : Nat} {t : TX} {v : Value} (h : XFix w b off t v) {p : Addr} (hp : p.block ≠ b) (u : Value) : XFix (w.setCell p u) b off t v := by
  obtain ⟨h1, h2, h3, h4, h5, h6, h7, h8, h9, h10, h11, h12⟩ := h
  have far : ∀ {q : Addr} {x : Value}, q.block = b → w.cell? q = some x → (w.setCell p u).cell? q = some x := fun {q x} hq hc => by
    rw [World.cell?_setCell_far w p q u (by rw [hq]; exact hp)]; exact hc
  exact ⟨far rfl h1, far rfl h2, far rfl h3, far rfl h4, far rfl h5, far rfl h6, far rfl h7, far rfl h8, far rfl h9, far rfl h10, far rfl h11, far rfl h12⟩
theorem copied_ln {w9 : World} {B B' : Nat} {u : Nat → S3} {l : LG} {b : Nat} (h : LN w9 B u l) (hb : b < B) (hB : B' ≤ B) (cs : List Value) (o : Nat) : LN (putCells w9 b o cs) B' u l := fun i hi => ((h i hi).mid (mid_putCells hb cs o w9)).le hB
theorem fitC_add {l : LG} {t : TX} {i : Nat} (h : FitC l) (hl : (l i).length < 1024) (ht : t.ops.length * 48 ≤ 140737488355328 ∧ ∀ o ∈ t.ops, o.key.size ≤ 281474976710656 ∧ o.elem.size ≤ 281474976710656) : FitC (addL l i t) := by
  refine ⟨fun j hj => ?_, fun j x hj hx => ?_⟩
  · have := h.len j hj
    rw [addL_size]
    split <;> omega
  · unfold addL at hx
    by_cases e : j = i
    · rw [if_pos e] at hx
      rcases List.mem_append.1 hx with hx | hx
      · exact h.tx i x (by omega) hx
      · simp only [List.mem_singleton] at hx
        subst hx
        exact ht
    · rw [if_neg e] at hx
      exact h.tx j x hj hx

end Go.Proofs.Ythbkbpodiebhgaa
