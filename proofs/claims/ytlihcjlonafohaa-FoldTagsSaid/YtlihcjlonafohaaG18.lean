/- Texts CutG, CutU, CutV, CutZA, joined. -/
import Derived.Test.YtlihcjlonafohaaG17
import Derived.ArgAppend
import Derived.Test.YtlihcjlonafohaaG14
import Derived.Test.YtlihcjlonafohaaG11
import Derived.Test.YtlihcjlonafohaaG13
/- Walks: slices.Clip of transactions; the program's Add. -/
namespace Go.Proofs.Ytlihcjlonafohaa
open Go.RowKit Go.Joins
set_option linter.unusedSimpArgs false
set_option linter.unusedVariables false

set_option maxRecDepth 100000 in
theorem slice3_txs (A : Option Addr) {n c : Nat} (hk : n ≤ c) (W : World) : (Instr.slice 22 (.slice A n c) none (some (.int .i64 (n : Int))) (some (.int .i64 (n : Int)))).run Try.prog W = .ok (.slice A n n) W := by
  have hz : ∀ W : World, (sizeOf (Try.prog.elem 22)).run Try.prog W = .ok 12 W := fun W => by show _ = _; kernel_rfl
  rw [run_slice_hm W _ A n c Try.underlying22 .i64 .i64 (n : Int) (n : Int) (by omega) (by omega) (by omega), hz]
  show Result.ok (sliced A 0 (n : Int).toNat (n : Int).toNat 12) W = _
  unfold sliced
  rw [Int.toNat_natCast]
  cases A with
  | none => simp
  | some a => simp [Addr.add]
set_option maxRecDepth 100000 in
/-- append of one transaction to a slice without room: it comes to new memory. -/
theorem step_append_clip {ops : Array Oper} {o : Oper} {a : Act} {K : Act → World → Prop} {Q : Exit → Act → World → Prop} {E : Prop} {W : World} (hgd : o.guard = none) (s x : Operand)
    (ho : o.op = .call { callee := .builtin .append, args := #[s, x], argTypes := #[22, 22] })
    (A : Option Addr) (n bn : Nat) (R : List TR) (t : TR) (hs : a.eval s = .slice A n n) (hx : a.eval x = .slice (some ⟨bn, 0, none⟩) 1 1) (hR : SL W 12 (.slice A n n) n (trs R)) (ht : XFix W bn 0 t.1 t.2.v)
    (hlen : (n + 1) * 112 ≤ 140737488355328)
    (h : ∀ A' c' w', w'.ownsRow W.heap.size 44 12 (.slice A' (n + 1) c') (n + 1) (trs (R ++ [t])) → Gr W w' → K (a.put o.dst (.slice A' (n + 1) c')) w') :
    if Region.wanted o (yielded ops a.tmps) = true then Oper.wp Try.prog o a W K Q else E := by
  have hw : Region.wanted o (yielded ops a.tmps) = true := by simp [Region.wanted, hgd]
  rw [if_pos hw]
  obtain ⟨i0, hi, hz0, hz1, hz2⟩ := info_parts infoTxn
  have hnews : ∀ j u, (trcells t)[j]? = some u → W.cell? ((⟨bn, 0, none⟩ : Addr).add j) = some u := fun j u hu => by
    have hj : j < 12 := by have := (List.getElem?_eq_some_iff.1 hu).1; rw [trcells_len] at this; exact this
    obtain ⟨x0, x1, x2, x3, x4, x5, x6, x7, x8, x9, x10, x11⟩ := ht
    rw [Go.WideShapes.add_plain]
    match j, hj with
    | 0, _ => injection hu with hu; rw [← hu]; exact x0
    | 1, _ => injection hu with hu; rw [← hu]; exact x1
    | 2, _ => injection hu with hu; rw [← hu]; exact x2
    | 3, _ => injection hu with hu; rw [← hu]; exact x3
    | 4, _ => injection hu with hu; rw [← hu]; exact x4
    | 5, _ => injection hu with hu; rw [← hu]; exact x5
    | 6, _ => injection hu with hu; rw [← hu]; exact x6
    | 7, _ => injection hu with hu; rw [← hu]; exact x7
    | 8, _ => injection hu with hu; rw [← hu]; exact x8
    | 9, _ => injection hu with hu; rw [← hu]; exact x9
    | 10, _ => injection hu with hu; rw [← hu]; exact x10
    | 11, _ => injection hu with hu; rw [← hu]; exact x11
  have happ : trs (R ++ [t]) = trs R ++ trcells t := by unfold trs; rw [List.flatMap_append]; simp
  have run : ∃ v' w', (Builtin.append_ #[22, 22] o.type #[.slice A n n, .slice (some ⟨bn, 0, none⟩) 1 1]).run Try.prog W = .ok v' w' ∧ w'.ownsRow W.heap.size 44 12 v' (n + 1) (trs R ++ trcells t) ∧ W.grownBy w' none := by
    obtain ⟨A', c', hv, h1, ⟨h2, h3⟩, h4, h5⟩ := hR
    injection hv with e1 e2 e3
    subst e1 e3
    cases A with
    | none =>
      obtain rfl : n = 0 := h3 rfl
      have hnil : trs R = [] := List.length_eq_zero_iff.1 (by rw [h4, Nat.zero_mul])
      rw [hnil]
      have h6 : (1 : Nat) * 112 ≤ 140737488355328 := by omega
      obtain ⟨v', w', hr, g1, g2, _⟩ := run_append_own_at (P := Try.prog) W W.heap.size 22 o.type 44 i0 _ 12 112 Try.underlying22 hi hz0 hz1 hz2 rfl (by decide) (.slice none 0 0) 0 [] (World.ownsRow_nil W _ _ _) ⟨bn, 0, none⟩ 1 1 (trcells t) rfl hnews (fun u hu => trs_one [t] u (by simpa [trs] using hu)) (by decide) (by omega) (Nat.le_refl _)
      exact ⟨v', w', hr, g1, g2⟩
    | some ad =>
      refine run_append_arg_grows (P := Try.prog) (w := W) 22 o.type 44 i0 _ 12 112 Try.underlying22 hi hz0 hz1 hz2 rfl (by decide) ad n n (trs R) h4 (fun j u hu => ?_) ⟨bn, 0, none⟩ 1 1 (trcells t) rfl hnews (by omega) (by unfold maxLen; omega) hlen
      obtain ⟨b, off, ha, hc⟩ := h5 j u hu
      injection ha with ha
      subst ha
      rw [Go.WideShapes.add_plain]
      exact hc
  obtain ⟨v', w', hr, h1, h2⟩ := run
  obtain ⟨A', c', rfl, _⟩ := own_form h1
  unfold Oper.wp execOp
  simp only [ho, resolve, invoke, builtin, Sem.run_bind, Sem.run_pure, Result.andThen_ok, List.map_toArray, List.map_cons, List.map_nil, hs, hx, hr]
  exact h A' c' w' (by rw [happ]; exact h1) ⟨h2.1, h2.2, h2.3, h2.4, fun k hk => h2.5 k hk (by intro e; cases e)⟩
def nilL : LG := fun _ => []
abbrev zlc : Array Value := #[.slice none 0 0, .slice none 0 0, .slice none 0 0, .slice none 0 0, .slice none 0 0, .slice none 0 0, .slice none 0 0, .slice none 0 0]
def Z3 : Nat → S3 := fun _ => ⟨none, 0, 0⟩
theorem XV.nil (w : World) : XV w (.slice none 0 0) [] := ⟨none, 0, rfl, Nat.le_refl _, ⟨Nat.zero_le _, fun _ => rfl⟩, fun j hj => absurd hj (by simp)⟩
theorem LV.nil (w : World) : LV w Z3 nilL := fun _ _ => XV.nil w
theorem LN.nil (w : World) (B : Nat) : LN w B Z3 nilL := fun _ _ => ⟨[], rfl, World.ownsRow_nil w _ _ _, fun r hr => by cases hr⟩
/-- What Add answers: its error, its logs. -/
def addR (l : LG) (t : TX) : Nat × LG :=
  if okTx t then
    if t.seq ≤ (l t.origin.toNat).length then
      match (l t.origin.toNat)[t.seq - 1]? with
      | some x => if sameT x t = true then (0, l) else (91, nilL)
      | none => (91, nilL)
    else if behindE l t = 0 then (if (l t.origin.toNat).length < 1024 then (0, addL l t.origin.toNat t) else (4, nilL)) else (behindE l t, nilL)
  else (80, nilL)
theorem boxesAd (u : Nat → S3) (t : TX) (v : Value) (w : World) : ∃ W, W = ((w.alloc (.cells (lcells u) 24)).alloc (.cells (tcs t v) 44)).alloc (.cells zlc 24) ∧ Gr w W ∧ W.heap.size = w.heap.size + 3 ∧
    LBox W w.heap.size u ∧ XFix W (w.heap.size + 1) 0 t v ∧ LBox W (w.heap.size + 1 + 1) Z3 := by
  obtain ⟨W, hW, hg, hs, hL, hX⟩ := boxesLT u t v w
  rw [← hW]
  have e : (w.alloc (.cells (lcells u) 24)).heap.size = w.heap.size + 1 := by simp
  refine ⟨_, rfl, hg.alloc _, by simp [hs], hL.gr ((Gr.refl _).alloc _), hX.gr ((Gr.refl _).alloc _), ⟨?_⟩⟩
  have h := heap_alloc W zlc 24
  rw [hs] at h
  exact h

theorem LBox.zero {w : World} {b : Nat} (h : LBox w b Z3) : w.cell? ⟨b, 0, none⟩ = some (.slice none 0 0) ∧ w.cell? ⟨b, 1, none⟩ = some (.slice none 0 0) ∧ w.cell? ⟨b, 2, none⟩ = some (.slice none 0 0) ∧ w.cell? ⟨b, 3, none⟩ = some (.slice none 0 0) ∧ w.cell? ⟨b, 4, none⟩ = some (.slice none 0 0) ∧ w.cell? ⟨b, 5, none⟩ = some (.slice none 0 0) ∧ w.cell? ⟨b, 6, none⟩ = some (.slice none 0 0) ∧ w.cell? ⟨b, 7, none⟩ = some (.slice none 0 0) := h.all
theorem XFix.far {w : World} {b off : Nat} {t : TX} {v : Value} (h : XFix w b off t v) {p : Addr} (hp : p.block ≠ b) (u : Value) : XFix (w.setCell p u) b off t v := by
  obtain ⟨h1, h2, h3, h4, h5, h6, h7, h8, h9, h10, h11, h12⟩ := h
  have far : ∀ {q : Addr} {x : Value}, q.block = b → w.cell? q = some x → (w.setCell p u).cell? q = some x := fun {q x} hq hc => by
    rw [World.cell?_setCell_far w p q u (by rw [hq]; exact hp)]; exact hc
  exact ⟨far rfl h1, far rfl h2, far rfl h3, far rfl h4, far rfl h5, far rfl h6, far rfl h7, far rfl h8, far rfl h9, far rfl h10, far rfl h11, far rfl h12⟩
theorem copied_ln {w9 : World} {B B' : Nat} {u : Nat → S3} {l : LG} {b : Nat} (h : LN w9 B u l) (hb : b < B) (hB : B' ≤ B) (cs : List Value) (o : Nat) : LN (putCells w9 b o cs) B' u l := fun i hi => ((h i hi).mid (mid_putCells hb cs o w9)).le hB
theorem fitC_add {l : LG} {t : TX} {i : Nat} (h : FitC l) (hl : (l i).length < 1024) (ht : t.ops.length * 48 ≤ 140737488355328 ∧ ∀ o ∈ t.ops, o.key.size ≤ 281474976710656 ∧ o.elem.size ≤ 281474976710656) : FitC (addL l i t) := by
  refine ⟨fun j hj => ?_, fun j x hj hx => ?_⟩
  · have := h.len j hj
    rw [addL_size]
    split <;> omega
  · unfold addL at hx
    by_cases e : j = i
    · rw [if_pos e] at hx
      rcases List.mem_append.1 hx with hx | hx
      · exact h.tx i x (by omega) hx
      · simp only [List.mem_singleton] at hx
        subst hx
        exact ht
    · rw [if_neg e] at hx
      exact h.tx j x hj hx

end Go.Proofs.Ytlihcjlonafohaa
/- Walks: the document's Copy of logs. -/
namespace Go.Proofs.Ytlihcjlonafohaa
open Go.RowKit Go.Joins
set_option linter.unusedSimpArgs false
set_option linter.unusedVariables false

theorem trcells_at {W : World} {b off : Nat} {t : TR} (ht : XFix W b off t.1 t.2.v) {j : Nat} {u : Value} (hu : (trcells t)[j]? = some u) : W.cell? ⟨b, off + j, none⟩ = some u := by
  have hj : j < 12 := by have := (List.getElem?_eq_some_iff.1 hu).1; rw [trcells_len] at this; exact this
  obtain ⟨x0, x1, x2, x3, x4, x5, x6, x7, x8, x9, x10, x11⟩ := ht
  match j, hj with
  | 0, _ => injection hu with hu; rw [← hu]; exact x0
  | 1, _ => injection hu with hu; rw [← hu]; exact x1
  | 2, _ => injection hu with hu; rw [← hu]; exact x2
  | 3, _ => injection hu with hu; rw [← hu]; exact x3
  | 4, _ => injection hu with hu; rw [← hu]; exact x4
  | 5, _ => injection hu with hu; rw [← hu]; exact x5
  | 6, _ => injection hu with hu; rw [← hu]; exact x6
  | 7, _ => injection hu with hu; rw [← hu]; exact x7
  | 8, _ => injection hu with hu; rw [← hu]; exact x8
  | 9, _ => injection hu with hu; rw [← hu]; exact x9
  | 10, _ => injection hu with hu; rw [← hu]; exact x10
  | 11, _ => injection hu with hu; rw [← hu]; exact x11
theorem trs_snoc (R : List TR) (t : TR) : trs (R ++ [t]) = trs R ++ trcells t := by unfold trs; rw [List.flatMap_append]; simp
/-- append of one transaction to a row that the call owns. -/
theorem step_append_tx {ops : Array Oper} {o : Oper} {a : Act} {K : Act → World → Prop} {Q : Exit → Act → World → Prop} {E : Prop} {W : World} (hgd : o.guard = none) (s x : Operand)
    (ho : o.op = .call { callee := .builtin .append, args := #[s, x], argTypes := #[22, 22] })
    (B : Nat) (A : Option Addr) (n c bn : Nat) (R : List TR) (t : TR) (hs : a.eval s = .slice A n c) (hx : a.eval x = .slice (some ⟨bn, 0, none⟩) 1 1) (hown : W.ownsRow B 44 12 (.slice A n c) n (trs R)) (ht : XFix W bn 0 t.1 t.2.v)
    (hlen : (n + 1) * 112 ≤ 140737488355328) (hB : B ≤ W.heap.size)
    (h : ∀ A' c' w', w'.ownsRow B 44 12 (.slice A' (n + 1) c') (n + 1) (trs (R ++ [t])) → W.grownBy w' (Value.slice A n c).ownBlock → K (a.put o.dst (.slice A' (n + 1) c')) w') :
    if Region.wanted o (yielded ops a.tmps) = true then Oper.wp Try.prog o a W K Q else E := by
  obtain ⟨i0, hi, hz0, hz1, hz2⟩ := info_parts infoTxn
  have h1 : ∀ u ∈ trcells t, u.oneCell' = true := fun u hu => trs_one [t] u (by unfold trs; simpa using hu)
  refine step_append_sl W hgd s x 22 ho B 44 i0 _ 12 112 Try.underlying22 hi hz0 hz1 hz2 rfl (by decide) (.slice A n c) n (trs R) hs hown (.slice (some ⟨bn, 0, none⟩) 1 1) 1 (trcells t) hx
    ⟨_, 1, rfl, Nat.le_refl _, ⟨by unfold maxLen; omega, fun e => by cases e⟩, by rw [trcells_len], fun j u hj => ⟨bn, 0, rfl, trcells_at ht hj⟩⟩ h1 (by unfold maxLen; omega) hlen hB (n + 1) rfl ?_
  intro A' c' w' hown' hgr _
  rw [← trs_snoc] at hown'
  exact h A' c' w' hown' hgr

/-- What lies below an owned row stays where it grows. -/
theorem own_below {w w' : World} {B size n : Nat} {ty : TypeId} {v : Value} {xs : List Value} (ho : w.ownsRow B ty size v n xs) (k : w.grownBy w' v.ownBlock) : ∀ x, x < B → x < w.heap.size → w'.heap[x]? = w.heap[x]? :=
  fun x hx hl => (show Kp v.ownBlock w w' from k).5 x hl (fun e => by have := ho.lt x e.symm; omega)
theorem Gr.grown {w0 w w' : World} {B size n : Nat} {ty : TypeId} {v : Value} {xs : List Value} (h : Gr w0 w) (ho : w.ownsRow B ty size v n xs) (hB : w0.heap.size ≤ B) (k : w.grownBy w' v.ownBlock) : Gr w0 w' :=
  ⟨(show Kp _ w w' from k).1.trans h.os, (show Kp _ w w' from k).2.trans h.tape, (show Kp _ w w' from k).3.trans h.output, Nat.le_trans h.size (show Kp _ w w' from k).size, fun x hx => (own_below ho k x (by omega) (Nat.lt_of_lt_of_le hx h.size)).trans (h.block x hx)⟩
theorem TOO.grown {w w' : World} {B B' n c : Nat} {A : Option Addr} {xs : List Value} {v : Value} {ops : List TO} (hv : TOO w B' v ops) (ho : w.ownsRow B 44 12 (.slice A n c) n xs) (hB : B' ≤ B) (k : w.grownBy w' (Value.slice A n c).ownBlock) : TOO w' B' v ops := by
  cases A with
  | none => exact World.ownsRow.kept hv k (Classical.em _)
  | some p => exact World.ownsRow.kept hv k (.inr (own_types (own_le ho hB) hv (by decide) (b := p.block) rfl))

theorem boxesRc (u : Nat → S3) (w : World) : ∃ W, W = ((w.alloc (.cells (lcells u) 24)).alloc (.cells (lcells fun _ => ⟨none, 0, 0⟩) 24)).alloc (.cells (lcells fun _ => ⟨none, 0, 0⟩) 24) ∧ Gr w W ∧ W.heap.size = w.heap.size + 3 ∧
    LBox W w.heap.size u ∧ LBox W (w.heap.size + 1) (fun _ => ⟨none, 0, 0⟩) ∧ LBox W (w.heap.size + 1 + 1) (fun _ => ⟨none, 0, 0⟩) := by
  refine ⟨_, rfl, (((Gr.refl w).alloc _).alloc _).alloc _, by simp, ⟨?_⟩, ⟨?_⟩, ⟨?_⟩⟩
  all_goals (simp only [World.alloc, Array.getElem?_push, Array.size_push]; simp)
  all_goals (intro e; omega)
/-- What the rounds of the document's Copy leave: the first i logs are copied, the others are empty. -/
structure RcR (w : World) (u : Nat → S3) (l : LG) (i : Nat) (ur : Nat → S3) (wr : World) : Prop where
  a : LBox wr w.heap.size u
  z : LBox wr (w.heap.size + 1) (fun _ => ⟨none, 0, 0⟩)
  b : LBox wr (w.heap.size + 1 + 1) ur
  xn : ∀ j, j < i → XN wr (w.heap.size + 3) (.slice (ur j).a (ur j).n (ur j).c) (l j)
  mt : ∀ j, i ≤ j → ur j = ⟨none, 0, 0⟩
  gr : Gr w wr
/-- The inner rounds: of log k the first d are copied. -/
structure RcI (w : World) (u : Nat → S3) (l : LG) (k : Nat) (ur : Nat → S3) (wo : World) (d : Nat) (A : Option Addr) (c : Nat) (R : List TR) (us : Nat → S3) (wr : World) : Prop where
  a : LBox wr w.heap.size u
  z : LBox wr (w.heap.size + 1) (fun _ => ⟨none, 0, 0⟩)
  b : LBox wr (w.heap.size + 1 + 1) us
  at' : us k = ⟨A, d, c⟩
  ne : ∀ j, j ≠ k → us j = ur j
  row : wr.ownsRow wo.heap.size 44 12 (.slice A d c) d (trs R)
  tx : texts R = (l k).take d
  ops : TOn wr (w.heap.size + 3) R
  mid : Mid (w.heap.size + 3) wo wr
  gr : Gr w wr
theorem RcI.next {w wo wr w' : World} {u ur us : Nat → S3} {l : LG} {k d c : Nat} {A : Option Addr} {R : List TR} (h : RcI w u l k ur wo d A c R us wr) (g : Gr wr w') : RcI w u l k ur wo d A c R us w' :=
  ⟨h.a.gr g, h.z.gr g, h.b.gr g, h.at', h.ne, own_gr h.row g, h.tx, h.ops.mid (Mid.of_gr g), h.mid.gr g, h.gr.trans g⟩
theorem LBox.keep {w w' : World} {b : Nat} {u : Nat → S3} (h : LBox w b u) (e : w'.heap[b]? = w.heap[b]?) : LBox w' b u := ⟨by rw [e]; exact h.box⟩
theorem LBox.lt {w : World} {b : Nat} {u : Nat → S3} (h : LBox w b u) : b < w.heap.size := (Array.getElem?_eq_some_iff.1 h.box).1
/-- One more: the row has grown, its new slice is stored. -/
theorem RcI.more {w wo w8 w9 : World} {u ur us : Nat → S3} {l : LG} {k d c c' : Nat} {A A' : Option Addr} {R : List TR} {t : TX} {s : S3} (h : RcI w u l k ur wo d A c R us w8) (hk : k < 8) (hB : w.heap.size + 3 ≤ wo.heap.size)
    (hd : d < (l k).length) (ht : (l k)[d] = t) (hs : TOO w8 (w.heap.size + 3) s.v t.ops) (kp : w8.grownBy w9 (Value.slice A d c).ownBlock)
    (hown : w9.ownsRow wo.heap.size 44 12 (.slice A' (d + 1) c') (d + 1) (trs (R ++ [(t, s)]))) :
    RcI w u l k ur wo (d + 1) A' c' (R ++ [(t, s)]) (updS us k ⟨A', d + 1, c'⟩) (w9.setCell ⟨w.heap.size + 1 + 1, k, none⟩ (.slice A' (d + 1) c')) := by
  have hb := own_below h.row kp
  have hsz : w8.heap.size ≤ w9.heap.size := Kp.size kp
  have h89 : wo.heap.size ≤ w8.heap.size := h.mid.size
  have e0 := hb w.heap.size (by omega) h.a.lt
  have e1 := hb (w.heap.size + 1) (by omega) h.z.lt
  have e2 := hb (w.heap.size + 1 + 1) (by omega) h.b.lt
  have m9 : Mid (w.heap.size + 3) wo w9 := ⟨Nat.le_trans h.mid.size hsz, fun x hx hl => (hb x hl (by omega)).trans (h.mid.mid x hx hl)⟩
  have g9 : Gr w w9 := h.gr.grown h.row (by omega) kp
  have ms : Mid (w.heap.size + 3) w9 (w9.setCell ⟨w.heap.size + 1 + 1, k, none⟩ (.slice A' (d + 1) c')) := (Mid.refl _ _).set (.inl (by show w.heap.size + 1 + 1 < _; omega)) _
  refine ⟨(h.a.keep e0).far (by simp only []; omega) _, (h.z.keep e1).far (by simp only []; omega) _, (h.b.keep e2).set hk _ _ _, if_pos rfl, fun j hj => ?_, ?_, ?_, ?_, m9.trans ms, ?_⟩
  · show (if j = k then _ else us j) = _
    rw [if_neg hj]; exact h.ne j hj
  · exact ownsRow_setCell_below hown (by show w.heap.size + 1 + 1 < _; omega) _
  · unfold texts
    rw [List.map_append, show R.map (·.1) = (l k).take d from h.tx, List.take_add_one, List.getElem?_eq_getElem hd, ht]
    rfl
  · intro r hr
    refine own_mid ?_ ms
    rcases List.mem_append.1 hr with hr | hr
    · exact TOO.grown (h.ops r hr) h.row hB kp
    · simp only [List.mem_singleton] at hr
      subst hr
      exact TOO.grown hs h.row hB kp
  · exact g9.setCell (by show w.heap.size ≤ w.heap.size + 1 + 1; omega) _

end Go.Proofs.Ytlihcjlonafohaa
/- Join: its answer (joinR); walks: the document's Join. -/
namespace Go.Proofs.Ytlihcjlonafohaa
open Go.RowKit Go.Joins
set_option linter.unusedSimpArgs false
set_option linter.unusedVariables false

theorem elemTxn : Try.prog.underlying 22 = some (.slice (Try.prog.elem 22)) := by kernel_rfl
theorem sizeTxn : ∀ W : World, (sizeOf (Try.prog.elem 22)).run Try.prog W = .ok 12 W := fun W => by kernel_rfl
theorem XV.take {w : World} {A : Option Addr} {n c k : Nat} {L : List TX} (h : XV w (.slice A n c) L) (hk : k ≤ n) : XV w (.slice A k c) (L.take k) := by
  obtain ⟨A', c', hv, h1, h2, h3⟩ := h
  injection hv with e1 e2 e3
  subst e1 e2 e3
  have hl : (L.take k).length = k := by rw [List.length_take]; omega
  refine ⟨A, c, by rw [hl], by omega, h2, fun j hj => ?_⟩
  obtain ⟨b, off, ha, hc⟩ := h3 j (by omega)
  exact ⟨b, off, ha, by rw [List.getElem_take]; exact hc⟩
/-- Are the logs the same as far as both reach? -/
def okJ (a b : LG) : Bool := (List.range 8).all fun i => sameL ((a i).take (b i).length) ((b i).take (a i).length)
theorem okJ_iff {a b : LG} : okJ a b = true ↔ ∀ i, i < 8 → sameL ((a i).take (b i).length) ((b i).take (a i).length) = true := by simp [okJ]
theorem okJ_no {a b : LG} {i : Nat} (hi : i < 8) (h : sameL ((a i).take (b i).length) ((b i).take (a i).length) = false) : okJ a b = false := by
  rw [Bool.eq_false_iff]
  intro e
  rw [okJ_iff.1 e i hi] at h
  cases h
/-- What Join answers: its error, its logs. -/
def joinR (a b : LG) : Nat × LG :=
  if checkE a = 0 then (if checkE b = 0 then (if okJ a b = true then (0, jnL a b) else (91, nilL)) else (checkE b, nilL)) else (checkE a, nilL)
theorem fitC_jn {a b : LG} (ha : FitC a) (hb : FitC b) : FitC (jnL a b) := by
  refine ⟨fun i hi => ?_, fun i t hi ht => ?_⟩
  · unfold jnL
    split
    · exact hb.len i hi
    · exact ha.len i hi
  · unfold jnL at ht
    split at ht
    · exact hb.tx i t hi ht
    · exact ha.tx i t hi ht
theorem boxesJn (u v : Nat → S3) (w : World) : ∃ W, W = ((w.alloc (.cells (lcells u) 24)).alloc (.cells (lcells v) 24)).alloc (.cells (lcells fun _ => ⟨none, 0, 0⟩) 24) ∧ Gr w W ∧ W.heap.size = w.heap.size + 3 ∧
    LBox W w.heap.size u ∧ LBox W (w.heap.size + 1) v ∧ LBox W (w.heap.size + 1 + 1) Z3 := by
  obtain ⟨W, hW, hg, hs, hA, hB⟩ := boxesLL u v w
  rw [← hW]
  have h1 := heap_alloc W (lcells fun _ => ⟨none, 0, 0⟩) 24
  rw [hs] at h1
  exact ⟨_, rfl, hg.alloc _, by simp [hs], hA.gr ((Gr.refl _).alloc _), hB.gr ((Gr.refl _).alloc _), ⟨h1⟩⟩
/-- What Join's rounds leave: of the first k logs the longer one stands in the answer. -/
structure JrR (w : World) (u v : Nat → S3) (a b : LG) (P : Nat) (k : Nat) (us : Nat → S3) (wr : World) : Prop where
  xa : LBox wr w.heap.size u
  xb : LBox wr (w.heap.size + 1) v
  xz : LBox wr (w.heap.size + 1 + 1) Z3
  xo : LBox wr P us
  lv : ∀ j, j < k → us j = if (a j).length < (b j).length then v j else u j
  ok : ∀ j, j < k → sameL ((a j).take (b j).length) ((b j).take (a j).length) = true
  gr : Gr w wr
theorem JrR.next {w wr w' : World} {u v us : Nat → S3} {a b : LG} {P k : Nat} (h : JrR w u v a b P k us wr) (g : Gr wr w') : JrR w u v a b P k us w' :=
  ⟨h.xa.gr g, h.xb.gr g, h.xz.gr g, h.xo.gr g, h.lv, h.ok, h.gr.trans g⟩
theorem JrR.put {w wr : World} {u v us : Nat → S3} {a b : LG} {P k : Nat} (h : JrR w u v a b P k us wr) (hP : w.heap.size + 3 ≤ P) {j : Nat} (hj : k ≤ j) (h8 : j < 8) (A : Option Addr) (n c : Nat) : JrR w u v a b P k (updS us j ⟨A, n, c⟩) (wr.setCell ⟨P, j, none⟩ (.slice A n c)) :=
  ⟨h.xa.far (by simp only []; omega) _, h.xb.far (by simp only []; omega) _, h.xz.far (by simp only []; omega) _, h.xo.set h8 _ _ _, fun i hi => by
    show (if i = j then _ else us i) = _
    rw [if_neg (by omega)]; exact h.lv i hi, h.ok, h.gr.setCell (by show w.heap.size ≤ P; omega) _⟩
theorem JrR.more {w wr : World} {u v us : Nat → S3} {a b : LG} {P k : Nat} (h : JrR w u v a b P k us wr) (e : us k = if (a k).length < (b k).length then v k else u k) (hs : sameL ((a k).take (b k).length) ((b k).take (a k).length) = true) : JrR w u v a b P (k + 1) us wr :=
  ⟨h.xa, h.xb, h.xz, h.xo, fun j hj => by
    by_cases q : j = k
    · rw [q]; exact e
    · exact h.lv j (by omega), fun j hj => by
    by_cases q : j = k
    · rw [q]; exact hs
    · exact h.ok j (by omega), h.gr⟩
theorem JrR.end {w wr : World} {u v us : Nat → S3} {a b : LG} {P : Nat} (h : JrR w u v a b P 8 us wr) (ha : LV w u a) (hb : LV w v b) : LV wr us (jnL a b) := fun i hi => by
  rw [h.lv i hi]
  unfold jnL
  by_cases e : (a i).length < (b i).length
  · rw [if_pos e, if_pos e]; exact (hb i hi).gr h.gr
  · rw [if_neg e, if_neg e]; exact (ha i hi).gr h.gr

end Go.Proofs.Ytlihcjlonafohaa
/- Owned logs outlive what is stored into boxes; the beginnings of logs, walked; what a region of such calls leaves. -/
namespace Go.Proofs.Ytlihcjlonafohaa
open Go.RowKit Go.Joins
set_option linter.unusedSimpArgs false
set_option linter.unusedVariables false

/-- The types of boxes: all but transactions and operations. -/
def btL (t : TypeId) : Bool := !(t == 44 || t == 46)
theorem XN.keeps {w w' : World} {B : Nat} {v : Value} {L : List TX} (h : XN w B v L) (k : Keeps btL w w') : XN w' B v L := by
  obtain ⟨R, h1, h2, h3⟩ := h
  exact ⟨R, h1, own_keeps h2 (by decide) k, fun r hr => own_keeps (h3 r hr) (by decide) k⟩
theorem LN.keeps {w w' : World} {B : Nat} {u : Nat → S3} {l : LG} (h : LN w B u l) (k : Keeps btL w w') : LN w' B u l := fun i hi => (h i hi).keeps k
theorem LN.le {w : World} {B B' : Nat} {u : Nat → S3} {l : LG} (h : LN w B u l) (hb : B' ≤ B) : LN w B' u l := fun i hi => (h i hi).le hb
theorem trs_take (R : List TR) (k : Nat) : (trs R).take (k * 12) = trs (R.take k) := rows_take trcells 12 (fun _ => rfl) R k
theorem XN.take {w : World} {B n c k : Nat} {A : Option Addr} {L : List TX} (h : XN w B (.slice A n c) L) (hk : k ≤ n) : XN w B (.slice A k c) (L.take k) := by
  obtain ⟨R, h1, h2, h3⟩ := h
  have h4 : w.ownsRow B 44 12 (.slice A n c) R.length (trs R) := h2
  obtain ⟨A', c', hv, -, -⟩ := own_form h4
  injection hv with e1 e2 e3
  subst e1 e2 e3
  rcases h4.2 with ⟨hh, h0⟩ | ⟨g, cap, cur, hh, hb, hg, hr⟩
  · injection hh with q1 q2 q3
    subst q1 q3
    obtain rfl : k = 0 := by omega
    exact ⟨[], by simp [texts], World.ownsRow_nil w B _ _, fun r hr => by cases hr⟩
  · injection hh with q1 q2 q3
    subst q1
    have h5 := own_prefix h4 hk
    rw [trs_take] at h5
    refine ⟨R.take k, ?_, ?_, fun r hr => h3 r (List.mem_of_mem_take hr)⟩
    · rw [← h1]; unfold texts; rw [List.map_take]
    · show w.ownsRow B _ 12 _ (R.take k).length _
      rw [List.length_take, Nat.min_eq_left hk]
      exact h5
theorem setCell_keeps {bt : TypeId → Bool} {w : World} {P : Nat} {z : Array Value} {t : TypeId} {fr : Nat × Nat} (h : w.heap[P]? = some (.cells z t fr)) (ht : bt t = true) (i : Nat) (v : Value) : Keeps bt w (w.setCell ⟨P, i, none⟩ v) := putCells_keeps h ht [v] i
/-- Of the first k logs the slices are cut. -/
def cutS (u : Nat → S3) (v : Nat → Nat) (k : Nat) : Nat → S3 := fun j => if j < k then ⟨(u j).a, v j, (u j).c⟩ else u j
theorem cutS_next (u : Nat → S3) (v : Nat → Nat) (k : Nat) : updS (cutS u v k) k ⟨(u k).a, v k, (u k).c⟩ = cutS u v (k + 1) := by
  funext j
  unfold updS cutS
  by_cases e : j = k
  · subst e; rw [if_pos rfl, if_pos (by omega)]
  · rw [if_neg e]
    by_cases q : j < k
    · rw [if_pos q, if_pos (by omega)]
    · rw [if_neg q, if_neg (by omega)]
theorem cutS_zero (u : Nat → S3) (v : Nat → Nat) : cutS u v 0 = u := by
  funext j
  unfold cutS
  rw [if_neg (by omega)]
theorem cutS_at (u : Nat → S3) (v : Nat → Nat) (k : Nat) : cutS u v k k = u k := if_neg (by omega)
/-- What the rounds of first leave. -/
structure FstR (w W : World) (v : Nat → Nat) (P B : Nat) (uk : Nat → S3) (l : LG) (k : Nat) (wr : World) : Prop where
  xo : LBox wr P (cutS uk v k)
  xz : LBox wr (w.heap.size + 1 + 1) Z3
  xv : VBox wr (w.heap.size + 1) v
  ln : LN wr B uk l
  gr : Gr W wr
theorem FstR.next {w W : World} {v : Nat → Nat} {P B : Nat} {uk : Nat → S3} {l : LG} {k : Nat} {wr w' : World} (h : FstR w W v P B uk l k wr) (g : Gr wr w') : FstR w W v P B uk l k w' :=
  ⟨h.xo.gr g, h.xz.gr g, h.xv.gr g, h.ln.keeps (Keeps.of_gr g), h.gr.trans g⟩
theorem FstR.more {w W : World} {v : Nat → Nat} {P B : Nat} {uk : Nat → S3} {l : LG} {k : Nat} {wr : World} (h : FstR w W v P B uk l k wr) (hP : w.heap.size + 3 ≤ P) (hW : W.heap.size = w.heap.size + 3) (hk : k < 8) : FstR w W v P B uk l (k + 1) (wr.setCell ⟨P, k, none⟩ (.slice (uk k).a (v k) (uk k).c)) :=
  ⟨by rw [← cutS_next]; exact h.xo.set hk _ _ _, h.xz.far (by simp only []; omega) _, h.xv.far (by simp only []; omega) _, h.ln.keeps (setCell_keeps h.xo.box (by decide) _ _), h.gr.setCell (by rw [hW]; simp only []; omega) _⟩
theorem boxesFi (u : Nat → S3) (v : Nat → Nat) (w : World) : ∃ W, W = ((w.alloc (.cells (lcells u) 24)).alloc (.cells (vcells v) 27)).alloc (.cells (lcells fun _ => ⟨none, 0, 0⟩) 24) ∧ Gr w W ∧ W.heap.size = w.heap.size + 3 ∧
    LBox W w.heap.size u ∧ VBox W (w.heap.size + 1) v ∧ LBox W (w.heap.size + 1 + 1) Z3 := by
  obtain ⟨W, hW, hg, hs, hA, hB⟩ := boxesLV u v w
  rw [← hW]
  have h1 := heap_alloc W (lcells fun _ => ⟨none, 0, 0⟩) 24
  rw [hs] at h1
  exact ⟨_, rfl, hg.alloc _, by simp [hs], hA.gr ((Gr.refl _).alloc _), hB.gr ((Gr.refl _).alloc _), ⟨h1⟩⟩

/-- The values of a region of such calls: plain ones, owned logs, owned logs beside an error's number. -/
structure QL (F : Nat → Option Value) (G : Nat → Option LG) (J : Nat → Option (LG × Nat)) (B : Nat) (k : Nat) (w : World) (y : Value) : Prop where
  f : ∀ v, F k = some v → y = v
  g : ∀ L, G k = some L → ∃ u, y = .agg (lcells u) ∧ LN w B u L
  j : ∀ L, J k = some L → ∃ u, y = .tuple #[.agg (lcells u), .int .i64 (L.2 : Int)] ∧ LN w B u L.1
theorem QL.st {F : Nat → Option Value} {G : Nat → Option LG} {J : Nat → Option (LG × Nat)} {B : Nat} : ∀ k y w1 w2, QL F G J B k w1 y → Keeps btL w1 w2 → QL F G J B k w2 y := fun k y w1 w2 h kp =>
  ⟨h.f, fun L hL => by obtain ⟨u, q1, q2⟩ := h.g L hL; exact ⟨u, q1, q2.keeps kp⟩, fun L hL => by obtain ⟨u, q1, q2⟩ := h.j L hL; exact ⟨u, q1, q2.keeps kp⟩⟩
theorem qlF {F : Nat → Option Value} {G : Nat → Option LG} {J : Nat → Option (LG × Nat)} {B k : Nat} {w : World} {v : Value} (h1 : F k = some v) (h2 : G k = none) (h3 : J k = none) : QL F G J B k w v :=
  ⟨fun x hx => (by rw [h1] at hx; exact Option.some.inj hx), fun L hL => (by rw [h2] at hL; cases hL), fun L hL => (by rw [h3] at hL; cases hL)⟩
theorem qlG {F : Nat → Option Value} {G : Nat → Option LG} {J : Nat → Option (LG × Nat)} {B k : Nat} {w : World} {u : Nat → S3} {L : LG} (h1 : F k = none) (h2 : G k = some L) (h3 : J k = none) (h : LN w B u L) : QL F G J B k w (.agg (lcells u)) :=
  ⟨fun x hx => (by rw [h1] at hx; cases hx), fun M hM => (by rw [h2] at hM; rw [← Option.some.inj hM]; exact ⟨u, rfl, h⟩), fun M hM => (by rw [h3] at hM; cases hM)⟩
theorem qlJ {F : Nat → Option Value} {G : Nat → Option LG} {J : Nat → Option (LG × Nat)} {B k : Nat} {w : World} {u : Nat → S3} {L : LG} {e : Nat} (h1 : F k = none) (h2 : G k = none) (h3 : J k = some (L, e)) (h : LN w B u L) : QL F G J B k w (.tuple #[.agg (lcells u), .int .i64 (e : Int)]) :=
  ⟨fun x hx => (by rw [h1] at hx; cases hx), fun M hM => (by rw [h2] at hM; cases hM), fun M hM => (by rw [h3] at hM; rw [← Option.some.inj hM]; exact ⟨u, rfl, h⟩)⟩
theorem qlN {F : Nat → Option Value} {G : Nat → Option LG} {J : Nat → Option (LG × Nat)} {B k : Nat} {w : World} {y : Value} (h1 : F k = none) (h2 : G k = none) (h3 : J k = none) : QL F G J B k w y :=
  ⟨fun x hx => (by rw [h1] at hx; cases hx), fun M hM => (by rw [h2] at hM; cases hM), fun M hM => (by rw [h3] at hM; cases hM)⟩
end Go.Proofs.Ytlihcjlonafohaa
