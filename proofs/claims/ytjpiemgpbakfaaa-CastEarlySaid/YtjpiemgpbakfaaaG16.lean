/- Texts CutU, joined. -/
import Derived.Test.YtjpiemgpbakfaaaG14
import Derived.Test.YtjpiemgpbakfaaaG11
/- Walks: the document's Copy of logs. -/
namespace Go.Proofs.Ytjpiemgpbakfaaa
open Go.RowKit Go.Joins
set_option linter.unusedSimpArgs false
set_option linter.unusedVariables false

theorem trcells_at {W : World} {b off : Nat} {t : TR} (ht : XFix W b off t.1 t.2.v) {j : Nat} {u : Value} (hu : (trcells t)[j]? = some u) : W.cell? ⟨b, off + j, none⟩ = some u := by
  have hj : j < 12 := by have := (List.getElem?_eq_some_iff.1 hu).1; rw [trcells_len] at this; exact this
  obtain ⟨x0, x1, x2, x3, x4, x5, x6, x7, x8, x9, x10, x11⟩ := ht
  match j, hj with
  | 0, _ => injection hu with hu; rw [← hu]; exact x0
  | 1, _ => injection hu with hu; rw [← hu]; exact x1
  | 2, _ => injection hu with hu; rw [← hu]; exact x2
  | 3, _ => injection hu with hu; rw [← hu]; exact x3
  | 4, _ => injection hu with hu; rw [← hu]; exact x4
  | 5, _ => injection hu with hu; rw [← hu]; exact x5
  | 6, _ => injection hu with hu; rw [← hu]; exact x6
  | 7, _ => injection hu with hu; rw [← hu]; exact x7
  | 8, _ => injection hu with hu; rw [← hu]; exact x8
  | 9, _ => injection hu with hu; rw [← hu]; exact x9
  | 10, _ => injection hu with hu; rw [← hu]; exact x10
  | 11, _ => injection hu with hu; rw [← hu]; exact x11
theorem trs_snoc (R : List TR) (t : TR) : trs (R ++ [t]) = trs R ++ trcells t := by unfold trs; rw [List.flatMap_append]; simp
/-- append of one transaction to a row that the call owns. -/
theorem step_append_tx {ops : Array Oper} {o : Oper} {a : Act} {K : Act → World → Prop} {Q : Exit → Act → World → Prop} {E : Prop} {W : World} (hgd : o.guard = none) (s x : Operand)
    (ho : o.op = .call { callee := .builtin .append, args := #[s, x], argTypes := #[22, 22] })
    (B : Nat) (A : Option Addr) (n c bn : Nat) (R : List TR) (t : TR) (hs : a.eval s = .slice A n c) (hx : a.eval x = .slice (some ⟨bn, 0, none⟩) 1 1) (hown : W.ownsRow B 38 12 (.slice A n c) n (trs R)) (ht : XFix W bn 0 t.1 t.2.v)
    (hlen : (n + 1) * 112 ≤ 140737488355328) (hB : B ≤ W.heap.size)
    (h : ∀ A' c' w', w'.ownsRow B 38 12 (.slice A' (n + 1) c') (n + 1) (trs (R ++ [t])) → W.grownBy w' (Value.slice A n c).ownBlock → K (a.put o.dst (.slice A' (n + 1) c')) w') :
    if Region.wanted o (yielded ops a.tmps) = true then Oper.wp Try.prog o a W K Q else E := by
  obtain ⟨i0, hi, hz0, hz1, hz2⟩ := info_parts infoTxn
  have h1 : ∀ u ∈ trcells t, u.oneCell' = true := fun u hu => trs_one [t] u (by unfold trs; simpa using hu)
  refine step_append_sl W hgd s x 22 ho B 38 i0 _ 12 112 Try.underlying22 hi hz0 hz1 hz2 rfl (by decide) (.slice A n c) n (trs R) hs hown (.slice (some ⟨bn, 0, none⟩) 1 1) 1 (trcells t) hx
    ⟨_, 1, rfl, Nat.le_refl _, ⟨by unfold maxLen; omega, fun e => by cases e⟩, by rw [trcells_len], fun j u hj => ⟨bn, 0, rfl, trcells_at ht hj⟩⟩ h1 (by unfold maxLen; omega) hlen hB (n + 1) rfl ?_
  intro A' c' w' hown' hgr _
  rw [← trs_snoc] at hown'
  exact h A' c' w' hown' hgr

/-- What lies below an owned row stays where it grows. -/
theorem own_below {w w' : World} {B size n : Nat} {ty : TypeId} {v : Value} {xs : List Value} (ho : w.ownsRow B ty size v n xs) (k : w.grownBy w' v.ownBlock) : ∀ x, x < B → x < w.heap.size → w'.heap[x]? = w.heap[x]? :=
  fun x hx hl => (show Kp v.ownBlock w w' from k).5 x hl (fun e => by have := ho.lt x e.symm; omega)
theorem Gr.grown {w0 w w' : World} {B size n : Nat} {ty : TypeId} {v : Value} {xs : List Value} (h : Gr w0 w) (ho : w.ownsRow B ty size v n xs) (hB : w0.heap.size ≤ B) (k : w.grownBy w' v.ownBlock) : Gr w0 w' :=
  ⟨(show Kp _ w w' from k).1.trans h.os, (show Kp _ w w' from k).2.trans h.tape, (show Kp _ w w' from k).3.trans h.output, Nat.le_trans h.size (show Kp _ w w' from k).size, fun x hx => (own_below ho k x (by omega) (Nat.lt_of_lt_of_le hx h.size)).trans (h.block x hx)⟩
theorem TOO.grown {w w' : World} {B B' n c : Nat} {A : Option Addr} {xs : List Value} {v : Value} {ops : List TO} (hv : TOO w B' v ops) (ho : w.ownsRow B 38 12 (.slice A n c) n xs) (hB : B' ≤ B) (k : w.grownBy w' (Value.slice A n c).ownBlock) : TOO w' B' v ops := by
  cases A with
  | none => exact World.ownsRow.kept hv k (Classical.em _)
  | some p => exact World.ownsRow.kept hv k (.inr (own_types (own_le ho hB) hv (by decide) (b := p.block) rfl))

theorem boxesRc (u : Nat → S3) (w : World) : ∃ W, W = ((w.alloc (.cells (lcells u) 24)).alloc (.cells (lcells fun _ => ⟨none, 0, 0⟩) 24)).alloc (.cells (lcells fun _ => ⟨none, 0, 0⟩) 24) ∧ Gr w W ∧ W.heap.size = w.heap.size + 3 ∧
    LBox W w.heap.size u ∧ LBox W (w.heap.size + 1) (fun _ => ⟨none, 0, 0⟩) ∧ LBox W (w.heap.size + 1 + 1) (fun _ => ⟨none, 0, 0⟩) := by
  refine ⟨_, rfl, (((Gr.refl w).alloc _).alloc _).alloc _, by simp, ⟨?_⟩, ⟨?_⟩, ⟨?_⟩⟩
  all_goals (simp only [World.alloc, Array.getElem?_push, Array.size_push]; simp)
  all_goals (intro e; omega)
/-- What the rounds of the document's Copy leave: the first i logs are copied, the others are empty. -/
structure RcR (w : World) (u : Nat → S3) (l : LG) (i : Nat) (ur : Nat → S3) (wr : World) : Prop where
  a : LBox wr w.heap.size u
  z : LBox wr (w.heap.size + 1) (fun _ => ⟨none, 0, 0⟩)
  b : LBox wr (w.heap.size + 1 + 1) ur
  xn : ∀ j, j < i → XN wr (w.heap.size + 3) (.slice (ur j).a (ur j).n (ur j).c) (l j)
  mt : ∀ j, i ≤ j → ur j = ⟨none, 0, 0⟩
  gr : Gr w wr
/-- The inner rounds: of log k the first d are copied. -/
structure RcI (w : World) (u : Nat → S3) (l : LG) (k : Nat) (ur : Nat → S3) (wo : World) (d : Nat) (A : Option Addr) (c : Nat) (R : List TR) (us : Nat → S3) (wr : World) : Prop where
  a : LBox wr w.heap.size u
  z : LBox wr (w.heap.size + 1) (fun _ => ⟨none, 0, 0⟩)
  b : LBox wr (w.heap.size + 1 + 1) us
  at' : us k = ⟨A, d, c⟩
  ne : ∀ j, j ≠ k → us j = ur j
  row : wr.ownsRow wo.heap.size 38 12 (.slice A d c) d (trs R)
  tx : texts R = (l k).take d
  ops : TOn wr (w.heap.size + 3) R
  mid : Mid (w.heap.size + 3) wo wr
  gr : Gr w wr
theorem RcI.next {w wo wr w' : World} {u ur us : Nat → S3} {l : LG} {k d c : Nat} {A : Option Addr} {R : List TR} (h : RcI w u l k ur wo d A c R us wr) (g : Gr wr w') : RcI w u l k ur wo d A c R us w' :=
  ⟨h.a.gr g, h.z.gr g, h.b.gr g, h.at', h.ne, own_gr h.row g, h.tx, h.ops.mid (Mid.of_gr g), h.mid.gr g, h.gr.trans g⟩
theorem LBox.keep {w w' : World} {b : Nat} {u : Nat → S3} (h : LBox w b u) (e : w'.heap[b]? = w.heap[b]?) : LBox w' b u := ⟨by rw [e]; exact h.box⟩
theorem LBox.lt {w : World} {b : Nat} {u : Nat → S3} (h : LBox w b u) : b < w.heap.size := (Array.getElem?_eq_some_iff.1 h.box).1
/-- One more: the row has grown, its new slice is stored. -/
theorem RcI.more {w wo w8 w9 : World} {u ur us : Nat → S3} {l : LG} {k d c c' : Nat} {A A' : Option Addr} {R : List TR} {t : TX} {s : S3} (h : RcI w u l k ur wo d A c R us w8) (hk : k < 8) (hB : w.heap.size + 3 ≤ wo.heap.size)
    (hd : d < (l k).length) (ht : (l k)[d] = t) (hs : TOO w8 (w.heap.size + 3) s.v t.ops) (kp : w8.grownBy w9 (Value.slice A d c).ownBlock)
    (hown : w9.ownsRow wo.heap.size 38 12 (.slice A' (d + 1) c') (d + 1) (trs (R ++ [(t, s)]))) :
    RcI w u l k ur wo (d + 1) A' c' (R ++ [(t, s)]) (updS us k ⟨A', d + 1, c'⟩) (w9.setCell ⟨w.heap.size + 1 + 1, k, none⟩ (.slice A' (d + 1) c')) := by
  have hb := own_below h.row kp
  have hsz : w8.heap.size ≤ w9.heap.size := Kp.size kp
  have h89 : wo.heap.size ≤ w8.heap.size := h.mid.size
  have e0 := hb w.heap.size (by omega) h.a.lt
  have e1 := hb (w.heap.size + 1) (by omega) h.z.lt
  have e2 := hb (w.heap.size + 1 + 1) (by omega) h.b.lt
  have m9 : Mid (w.heap.size + 3) wo w9 := ⟨Nat.le_trans h.mid.size hsz, fun x hx hl => (hb x hl (by omega)).trans (h.mid.mid x hx hl)⟩
  have g9 : Gr w w9 := h.gr.grown h.row (by omega) kp
  have ms : Mid (w.heap.size + 3) w9 (w9.setCell ⟨w.heap.size + 1 + 1, k, none⟩ (.slice A' (d + 1) c')) := (Mid.refl _ _).set (.inl (by show w.heap.size + 1 + 1 < _; omega)) _
  refine ⟨(h.a.keep e0).far (by simp only []; omega) _, (h.z.keep e1).far (by simp only []; omega) _, (h.b.keep e2).set hk _ _ _, if_pos rfl, fun j hj => ?_, ?_, ?_, ?_, m9.trans ms, ?_⟩
  · show (if j = k then _ else us j) = _
    rw [if_neg hj]; exact h.ne j hj
  · exact ownsRow_setCell_below hown (by show w.heap.size + 1 + 1 < _; omega) _
  · unfold texts
    rw [List.map_append, show R.map (·.1) = (l k).take d from h.tx, List.take_add_one, List.getElem?_eq_getElem hd, ht]
    rfl
  · intro r hr
    refine own_mid ?_ ms
    rcases List.mem_append.1 hr with hr | hr
    · exact TOO.grown (h.ops r hr) h.row hB kp
    · simp only [List.mem_singleton] at hr
      subst hr
      exact TOO.grown hs h.row hB kp
  · exact g9.setCell (by show w.heap.size ≤ w.heap.size + 1 + 1; omega) _

end Go.Proofs.Ytjpiemgpbakfaaa
