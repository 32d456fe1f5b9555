/- Walks: the document's Copy of logs. -/
import Derived.Test.YtnjmgknicffcbaaGreatDoorZr12
import Derived.Test.YtnjmgknicffcbaaGreatDoorZr11
namespace Go.Proofs.YtnjmgknicffcbaaGreatDoor
open Go.RowKit Go.Joins
set_option linter.unusedSimpArgs false
set_option linter.unusedVariables false

theorem trcells_at {W : World} {b off : Nat} {t : TR} (ht : XFix W b off t.1 t.2.v) {j : Nat} {u : Value} (hu : (trcells t)[j]? = some u) : W.cell? ⟨b, off + j, none⟩ = some u := by
  have hj : j < 12 := by have := (List.getElem?_eq_some_iff.1 hu).1; rw [trcells_len] at this; exact this
  obtain ⟨x0, x1, x2, x3, x4, x5, x6, x7, x8, x9, x10, x11⟩ := ht
  match j, hj with
  | 0, _ => injection hu with hu; rw [← hu]; exact x0
  | 1, _ => injection hu with hu; rw [← hu]; exact x1
  | 2, _ => injection hu with hu; rw [← hu]; exact x2
  | 3, _ => injection hu with hu; rw [← hu]; exact x3
  | 4, _ => injection hu with hu; rw [← hu]; exact x4
  | 5, _ => injection hu with hu; rw [← hu]; exact x5
  | 6, _ => injection hu with hu; rw [← hu]; exact x6
  | 7, _ => injection hu with hu; rw [← hu]; exact x7
  | 8, _ => injection hu with hu; rw [← hu]; exact x8
  | 9, _ => injection hu with hu; rw [← hu]; exact x9
  | 10, _ => injection hu with hu; rw [← hu]; exact x10
  | 11, _ => injection hu with hu; rw [← hu]; exact x11
theorem trs_snoc (R : List TR) (t : TR) : trs (R ++ [t]) = trs R ++ trcells t := by unfold trs; rw [List.flatMap_append]; simp
/-- append of one transaction to a row that the call owns. -/
theorem step_append_tx {ops : Array Oper} {o : Oper} {a : Act} {K : Act → World → Prop} {Q : Exit → Act → World → Prop} {E : Prop} {W : World} (hgd : o.guard = none) (s x : Operand)
    (ho : o.op = .call { callee := .builtin .append, args := #[s, x], argTypes := #[23, 23] })
    (B : Nat) (A : Option Addr) (n c bn : Nat) (R : List TR) (t : TR) (hs : a.eval s = .slice A n c) (hx : a.eval x = .slice (some ⟨bn, 0, none⟩) 1 1) (hown : W.ownsRow B 47 12 (.slice A n c) n (trs R)) (ht : XFix W bn 0 t.1 t.2.v)
    (hlen : (n + 1) * 112 ≤ 140737488355328) (hB : B ≤ W.heap.size)
    (h : ∀ A' c' w', w'.ownsRow B 47 12 (.slice A' (n + 1) c') (n + 1) (trs (R ++ [t])) → W.grownBy w' (Value.slice A n c).ownBlock → K (a.put o.dst (.slice A' (n + 1) c')) w') :
    if Region.wanted o (yielded ops a.tmps) = true then Oper.wp Tryz.prog o a W K Q else E := by
  obtain ⟨i0, hi, hz0, hz1, hz2⟩ := info_parts infoTxn
  have h1 : ∀ u ∈ trcells t, u.oneCell' = true := fun u hu => trs_one [t] u (by unfold trs; simpa using hu)
  refine step_append_sl W hgd s x 23 ho B 47 i0 _ 12 112 Tryz.underlying23 hi hz0 hz1 hz2 rfl (by decide) (.slice A n c) n (trs R) hs hown (.slice (some ⟨bn, 0, none⟩) 1 1) 1 (trcells t) hx
    ⟨_, 1, rfl, Nat.le_refl _, ⟨by unfold maxLen; omega, fun e => by cases e⟩, by rw [trcells_len], fun j u hj => ⟨bn, 0, rfl, trcells_at ht hj⟩⟩ h1 (by unfold maxLen; omega) hlen hB (n + 1) rfl ?_
  intro A' c' w' hown' hgr _
  rw [← trs_snoc] at hown'
  exact h A' c' w' hown' hgr

/-- What lies below an owned row stays where it grows. -/
theorem own_below {w w' : World} {B size n : Nat} {ty : TypeId} {v : Value} {xs : List Value} (ho : w.ownsRow B ty size v n xs) (k : w.grownBy w' v.ownBlock) : ∀ x, x < B → x < w.heap.size → w'.heap[x]? = w.heap[x]? :=
  fun x hx hl => (show Kp v.ownBlock w w' from k).5 x hl (fun e => by have := ho.lt x e.symm; omega)
theorem Gr.grown {w0 w w' : World} {B size n : Nat} {ty : TypeId} {v : Value} {xs : List Value} (h : Gr w0 w) (ho : w.ownsRow B ty size v n xs) (hB : w0.heap.size ≤ B) (k : w.grownBy w' v.ownBlock) : Gr w0 w' :=
  ⟨(show Kp _ w w' from k).1.trans h.os, (show Kp _ w w' from k).2.trans h.tape, (show Kp _ w w' from k).3.trans h.output, Nat.le_trans h.size (show Kp _ w w' from k).size, fun x hx => (own_below ho k x (by omega) (Nat.lt_of_lt_of_le hx h.size)).trans (h.block x hx)⟩
theorem TOO.grown {w w' : World} {B B' n c : Nat} {A : Option Addr} {xs : List Value} {v : Value} {ops : List TO} (hv : TOO w B' v ops) (ho : w.ownsRow B 47 12 (.slice A n c) n xs) (hB : B' ≤ B) (k : w.grownBy w' (Value.slice A n c).ownBlock) : TOO w' B' v ops := by
  cases A with
  | none => exact World.ownsRow.kept hv k (Classical.em _)
  | some p => exact World.ownsRow.kept hv k (.inr (own_types (own_le ho hB) hv (by decide) (b := p.block) rfl))

theorem boxesRc (u : Nat → S3) (w : World) : ∃ W, W = ((w.alloc (.cells (lcells u) 25)).alloc (.cells (lcells fun _ => ⟨none, 0, 0⟩) 25)).alloc (.cells (lcells fun _ => ⟨none, 0, 0⟩) 25) ∧ Gr w W ∧ W.heap.size = w.heap.size + 3 ∧
    LBox W w.heap.size u ∧ LBox W (w.heap.size + 1) (fun _ => ⟨none, 0, 0⟩) ∧ LBox W (w.heap.size + 1 + 1) (fun _ => ⟨none, 0, 0⟩) := by
  refine ⟨_, rfl, (((Gr.refl w).alloc _).alloc _).alloc _, by simp, ⟨?_⟩, ⟨?_⟩, ⟨?_⟩⟩
  all_goals (simp only [World.alloc, Array.getElem?_push, Array.size_push]; simp)
  all_goals (intro e; omega)
/-- What the rounds of the document's Copy leave: the first i logs are copied, the others are empty. -/
structure RcR (w : World) (u : Nat → S3) (l : LG) (i : Nat) (ur : Nat → S3) (wr : World) : Prop where
  a : LBox wr w.heap.size u
  z : LBox wr (w.heap.size + 1) (fun _ => ⟨none, 0, 0⟩)
  b : LBox wr (w.heap.size + 1 + 1) ur
  xn : ∀ j, j < i → XN wr (w.heap.size + 3) (.slice (ur j).a (ur j).n (ur j).c) (l j)
  mt : ∀ j, i ≤ j → ur j = ⟨none, 0, 0⟩
  gr : Gr w wr
/-- The inner rounds: of log k the first d are copied. -/
structure RcI (w : World) (u : Nat → S3) (l : LG) (k : Nat) (ur : Nat → S3) (wo : World) (d : Nat) (A : Option Addr) (c : Nat) (R : List TR) (us : Nat → S3) (wr : World) : Prop where
  a : LBox wr w.heap.size u
  z : LBox wr (w.heap.size + 1) (fun _ => ⟨none, 0, 0⟩)
  b : LBox wr (w.heap.size + 1 + 1) us
  at' : us k = ⟨A, d, c⟩
  ne : ∀ j, j ≠ k → us j = ur j
  row : wr.ownsRow wo.heap.size 47 12 (.slice A d c) d (trs R)
  tx : texts R = (l k).take d
  ops : TOn wr (w.heap.size + 3) R
  mid : Mid (w.heap.size + 3) wo wr
  gr : Gr w wr
theorem RcI.next {w wo wr w' : World} {u ur us : Nat → S3} {l : LG} {k d c : Nat} {A : Option Addr} {R : List TR} (h : RcI w u l k ur wo d A c R us wr) (g : Gr wr w') : RcI w u l k ur wo d A c R us w' :=
  ⟨h.a.gr g, h.z.gr g, h.b.gr g, h.at', h.ne, own_gr h.row g, h.tx, h.ops.mid (Mid.of_gr g), h.mid.gr g, h.gr.trans g⟩
theorem LBox.keep {w w' : World} {b : Nat} {u : Nat → S3} (h : LBox w b u) (e : w'.heap[b]? = w.heap[b]?) : LBox w' b u := ⟨by rw [e]; exact h.box⟩
theorem LBox.lt {w : World} {b : Nat} {u : Nat → S3} (h : LBox w b u) : b < w.heap.size := (Array.getElem?_eq_some_iff.1 h.box).1
/-- One more: the row has grown, its new slice is stored. -/
theorem RcI.more {w wo w8 w9 : World} {u ur us : Nat → S3} {l : LG} {k d c c' : Nat} {A A' : Option Addr} {R : List TR} {t : TX} {s : S3} (h : RcI w u l k ur wo d A c R us w8) (hk : k < 8) (hB : w.heap.size + 3 ≤ wo.heap.size)
    (hd : d < (l k).length) (ht : (l k)[d] = t) (hs : TOO w8 (w.heap.size + 3) s.v t.ops) (kp : w8.grownBy w9 (Value.slice A d c).ownBlock)
    (hown : w9.ownsRow wo.heap.size 47 12 (.slice A' (d + 1) c') (d + 1) (trs (R ++ [(t, s)]))) :
    RcI w u l k ur wo (d + 1) A' c' (R ++ [(t, s)]) (updS us k ⟨A', d + 1, c'⟩) (w9.setCell ⟨w.heap.size + 1 + 1, k, none⟩ (.slice A' (d + 1) c')) := by
  have hb := own_below h.row kp
  have hsz : w8.heap.size ≤ w9.heap.size := Kp.size kp
  have h89 : wo.heap.size ≤ w8.heap.size := h.mid.size
  have e0 := hb w.heap.size (by omega) h.a.lt
  have e1 := hb (w.heap.size + 1) (by omega) h.z.lt
  have e2 := hb (w.heap.size + 1 + 1) (by omega) h.b.lt
  have m9 : Mid (w.heap.size + 3) wo w9 := ⟨Nat.le_trans h.mid.size hsz, fun x hx hl => (hb x hl (by omega)).trans (h.mid.mid x hx hl)⟩
  have g9 : Gr w w9 := h.gr.grown h.row (by omega) kp
  have ms : Mid (w.heap.size + 3) w9 (w9.setCell ⟨w.heap.size + 1 + 1, k, none⟩ (.slice A' (d + 1) c')) := (Mid.refl _ _).set (.inl (by show w.heap.size + 1 + 1 < _; omega)) _
  refine ⟨(h.a.keep e0).far (by simp only []; omega) _, (h.z.keep e1).far (by simp only []; omega) _, (h.b.keep e2).set hk _ _ _, if_pos rfl, fun j hj => ?_, ?_, ?_, ?_, m9.trans ms, ?_⟩
  · show (if j = k then _ else us j) = _
    rw [if_neg hj]; exact h.ne j hj
  · exact ownsRow_setCell_below hown (by show w.heap.size + 1 + 1 < _; omega) _
  · unfold texts
    rw [List.map_append, show R.map (·.1) = (l k).take d from h.tx, List.take_add_one, List.getElem?_eq_getElem hd, ht]
    rfl
  · intro r hr
    refine own_mid ?_ ms
    rcases List.mem_append.1 hr with hr | hr
    · exact TOO.grown (h.ops r hr) h.row hB kp
    · simp only [List.mem_singleton] at hr
      subst hr
      exact TOO.grown hs h.row hB kp
  · exact g9.setCell (by show w.heap.size ≤ w.heap.size + 1 + 1; omega) _

set_option maxRecDepth 100000 in
set_option maxHeartbeats 4000000 in
theorem rcopy9_any (u : Nat → S3) (l : LG) (w : World) (h : LV w u l) (hf : FitC l) :
    Calls Tryz.prog 17 #[.agg (lcells u)] w fun e w' => ∃ u', e = .returned (.agg (lcells u')) ∧ LN w' w.heap.size u' l ∧ Gr w w' := by
  obtain ⟨W, hW, hg, hsz, hL, hZ, hO⟩ := boxesRc u w
  have HR0 : Hid (RcR w u l 0 (fun _ => ⟨none, 0, 0⟩) W) := Lib.hid ⟨hL, hZ, hO, fun j hj => absurd hj (Nat.not_lt_zero _), fun _ _ => rfl, hg⟩
  have HF := Lib.hid hf
  have HX := Lib.hid h
  clear hL hZ hO hg hsz h hf
  go_enter Tryz.func17, Tryz.ntmps17
  go_upto_region 2 with (fail)
  rw [← hW]
  clear hW
  go_wp2_with fail
  go_loopw [4] (fun i wr => ∃ k : Nat, k ≤ 8 ∧ i = .int .i64 k ∧ Hid (∃ ur, RcR w u l k ur wr)) (fun i _ => 8 - (intOf i).toNat)
  case atStart => exact ⟨0, by decide, rfl, Lib.hid ⟨_, HR0.out⟩⟩
  case round =>
    clear HR0
    obtain ⟨k, hk, rfl, hcc⟩ := hrel
    rename World => wo
    obtain ⟨ur, hcr⟩ := hcc.out
    have HCR := Lib.hid hcr
    clear hcc hcr
    by_cases hlt : k < 8
    · have hk0 : (0 : Int) ≤ (k : Int) := Int.natCast_nonneg _
      have hk8 : (k : Int) < 8 := by omega
      have hun := HX.out.len hlt
      obtain ⟨A0, hA0⟩ : ∃ A, A = (u k).a := ⟨_, rfl⟩
      obtain ⟨n, hn⟩ : ∃ n, n = (u k).n := ⟨_, rfl⟩
      obtain ⟨c0, hc0⟩ : ∃ n, n = (u k).c := ⟨_, rfl⟩
      have HA0 := Lib.hid hA0
      have HC0 := Lib.hid hc0
      have HN0 := Lib.hid hn
      have HN : Hid (n = (l k).length) := Lib.hid (by rw [hn, hun])
      have hnle : n ≤ 9223372036854775807 := by rw [HN.out]; exact HX.out.le hlt
      have HB1 : Hid (w.heap.size + 3 ≤ wo.heap.size) := Lib.hid (by have := HCR.out.b.lt; omega)
      clear hun hA0 hn hc0
      go_wp2_with fail
      go_loopw [5] (fun i wr => ∃ d : Nat, d ≤ n ∧ i = .int .i64 d ∧ Hid (∃ A c R us, RcI w u l k ur wo d A c R us wr)) (fun i _ => n - (intOf i).toNat)
      case atStart => exact ⟨0, Nat.zero_le _, rfl, Lib.hid ⟨none, 0, [], ur, ⟨HCR.out.a, HCR.out.z, HCR.out.b, HCR.out.mt k (Nat.le_refl _), fun _ _ => rfl, World.ownsRow_nil _ _ _ _, by simp [texts], fun _ h => (by cases h), Mid.refl _ _, HCR.out.gr⟩⟩⟩
      case round =>
        obtain ⟨d, hd, rfl, hst⟩ := hrel
        rename World => wr
        obtain ⟨A, c, R, us, hri⟩ := hst.out
        have HRI := Lib.hid hri
        have lk := hri.a.at hlt
        rw [← HA0.out, ← HN0.out, ← HC0.out] at lk
        clear hst hri
        by_cases hdn : d < n
        · have hdl : d < (l k).length := by rw [← HN.out]; exact hdn
          obtain ⟨b, off, ha, xv, hx0, hx⟩ := HX.out.cell hlt hdl
          rw [← HA0.out] at ha
          subst ha
          obtain ⟨t, ht⟩ : ∃ t, t = (l k)[d] := ⟨_, rfl⟩
          rw [← ht] at hx0 hx
          obtain ⟨Ax, cx, rfl⟩ := tov_form hx0
          have hfit := HF.out.tx k t hlt (by rw [ht]; exact List.getElem_mem hdl)
          have HT := Lib.hid ht
          have HCP := Lib.hid (fun w1 (g : Gr wr w1) => rcopy8_own t (.slice Ax t.ops.length cx) w1 (hx0.gr (HRI.out.gr.trans g)) hfit.1)
          have hlen : (d + 1) * 112 ≤ 140737488355328 := by have := HF.out.len k hlt; omega
          obtain ⟨nx, hnx⟩ : ∃ n, n = t.ops.length := ⟨_, rfl⟩
          have HNX := Lib.hid hnx
          rw [← hnx] at hx HCP
          have hd0 : (0 : Int) ≤ (d : Int) := by omega
          have hd1 : (d : Int) < (n : Int) := by omega
          have HXX := Lib.hid hx
          have HLK := Lib.hid lk
          have HLEN := Lib.hid hlen
          clear hx0 hfit ht hnx hx hlen
          go_upto_region 8 with (fail)
          clear lk
          refine wp_region_held_drew (S := fun w' => w'.cell? ⟨w.heap.size, k, none⟩ = some (.slice (some ⟨b, off, none⟩) n c0) ∧ XFix w' b (off + d * 12) t (.slice Ax nx cx)) (by kernel_rfl) ⟨(Gr.refl _).drew.cell HLK.out, HXX.out.gr HRI.out.gr.drew⟩ (fun hHeld => ?_)
          refine hTake (i := 0) rfl (by kernel_rfl) (by kernel_rfl) (by kernel_rfl) (by kernel_rfl) (by assumption) ?_
          apply Exists.intro
          refine ⟨fun _ _ _ h => h, fun wq hq => ?_, ?_⟩
          · go_light
            obtain ⟨e12, ⟨e0, e1, e2, e3, e4, e5, e6, e7, e8, e9, e10, e11⟩⟩ := hq
            go_simp
            try with_reducible rfl
            done
          try simp only [Act.put, List.setIfInBounds_toArray, List.set_cons_zero, List.set_cons_succ]
          refine hTake (i := 1) rfl (by kernel_rfl) (by kernel_rfl) (by kernel_rfl) (by kernel_rfl) (by assumption) ?_
          apply Exists.intro
          refine ⟨fun _ _ _ h => h, fun wq hq => ?_, ?_⟩
          · go_light
            obtain ⟨e12, ⟨e0, e1, e2, e3, e4, e5, e6, e7, e8, e9, e10, e11⟩⟩ := hq
            go_simp
            try with_reducible rfl
            done
          try simp only [Act.put, List.setIfInBounds_toArray, List.set_cons_zero, List.set_cons_succ]
          refine hTake (i := 2) rfl (by kernel_rfl) (by kernel_rfl) (by kernel_rfl) (by kernel_rfl) (by assumption) ?_
          apply Exists.intro
          refine ⟨fun _ _ _ h => h, fun wq hq => ?_, ?_⟩
          · go_light
            obtain ⟨e12, ⟨e0, e1, e2, e3, e4, e5, e6, e7, e8, e9, e10, e11⟩⟩ := hq
            go_simp
            try with_reducible rfl
            done
          try simp only [Act.put, List.setIfInBounds_toArray, List.set_cons_zero, List.set_cons_succ]
          refine hTake (i := 4) rfl (by kernel_rfl) (by kernel_rfl) (by kernel_rfl) (by kernel_rfl) (by assumption) ?_
          apply Exists.intro
          refine ⟨fun _ _ _ h => h, fun wq hq => ?_, ?_⟩
          · go_light
            obtain ⟨e12, ⟨e0, e1, e2, e3, e4, e5, e6, e7, e8, e9, e10, e11⟩⟩ := hq
            go_simp
            try with_reducible rfl
            done
          try simp only [Act.put, List.setIfInBounds_toArray, List.set_cons_zero, List.set_cons_succ]
          refine hTake (i := 5) rfl (by kernel_rfl) (by kernel_rfl) (by kernel_rfl) (by kernel_rfl) (by assumption) ?_
          apply Exists.intro
          refine ⟨fun _ _ _ h => h, fun wq hq => ?_, ?_⟩
          · go_light
            obtain ⟨e12, ⟨e0, e1, e2, e3, e4, e5, e6, e7, e8, e9, e10, e11⟩⟩ := hq
            go_simp
            try with_reducible rfl
            done
          try simp only [Act.put, List.setIfInBounds_toArray, List.set_cons_zero, List.set_cons_succ]
          refine hTake (i := 6) rfl (by kernel_rfl) (by kernel_rfl) (by kernel_rfl) (by kernel_rfl) (by assumption) ?_
          apply Exists.intro
          refine ⟨fun _ _ _ h => h, fun wq hq => ?_, ?_⟩
          · go_light
            obtain ⟨e12, ⟨e0, e1, e2, e3, e4, e5, e6, e7, e8, e9, e10, e11⟩⟩ := hq
            go_simp
            try with_reducible rfl
            done
          try simp only [Act.put, List.setIfInBounds_toArray, List.set_cons_zero, List.set_cons_succ]
          refine hTake (i := 7) rfl (by kernel_rfl) (by kernel_rfl) (by kernel_rfl) (by kernel_rfl) (by assumption) ?_
          apply Exists.intro
          refine ⟨fun _ _ _ h => h, fun wq hq => ?_, ?_⟩
          · go_light
            obtain ⟨e12, ⟨e0, e1, e2, e3, e4, e5, e6, e7, e8, e9, e10, e11⟩⟩ := hq
            go_simp
            try with_reducible rfl
            done
          try simp only [Act.put, List.setIfInBounds_toArray, List.set_cons_zero, List.set_cons_succ]
          refine hTake (i := 8) rfl (by kernel_rfl) (by kernel_rfl) (by kernel_rfl) (by kernel_rfl) (by assumption) ?_
          apply Exists.intro
          refine ⟨fun _ _ _ h => h, fun wq hq => ?_, ?_⟩
          · go_light
            obtain ⟨e12, ⟨e0, e1, e2, e3, e4, e5, e6, e7, e8, e9, e10, e11⟩⟩ := hq
            go_simp
            try with_reducible rfl
            done
          try simp only [Act.put, List.setIfInBounds_toArray, List.set_cons_zero, List.set_cons_succ]
          refine hTake (i := 9) rfl (by kernel_rfl) (by kernel_rfl) (by kernel_rfl) (by kernel_rfl) (by assumption) ?_
          apply Exists.intro
          refine ⟨fun _ _ _ h => h, fun wq hq => ?_, ?_⟩
          · go_light
            obtain ⟨e12, ⟨e0, e1, e2, e3, e4, e5, e6, e7, e8, e9, e10, e11⟩⟩ := hq
            go_simp
            try with_reducible rfl
            done
          try simp only [Act.put, List.setIfInBounds_toArray, List.set_cons_zero, List.set_cons_succ]
          have hg3 : Gr wr wr.drew := (Gr.refl _).drew
          generalize wr.drew = W3 at *
          have HG3 := Lib.hid hg3
          have HS3 := Lib.hid hHeld
          have r3 : W3.cell? ⟨w.heap.size + 1 + 1, k, none⟩ = some (.slice A d c) := by
            have := (HRI.out.b.gr HG3.out).at hlt
            rw [HRI.out.at'] at this
            exact this
          have HR3 := Lib.hid r3
          clear hg3 hHeld
          refine wpAnyH_ready (rs := [3, 10]) (by kernel_rfl) (by simp) ?_
          refine AllReadyH.cons rfl (fun K hK => ?_) (AllReadyH.cons rfl (fun K hK => ?_) AllReadyH.nil)
          case' refine_1 =>
            have r9 := HR3.out
            go_simp
            refine hK.out _ _ HS3.out (fun _ => ?_)
            clear hK K r9
            try simp only [Act.put, List.setIfInBounds_toArray, List.set_cons_zero, List.set_cons_succ]
            refine wpAnyH_ready (rs := [10]) (by kernel_rfl) (by simp) ?_
            refine AllReadyH.cons rfl (fun K hK => ?_) AllReadyH.nil
            go_simp
            go_at_call 52
            refine (HCP.out _ HG3.out).mono ?_
            rintro e w7 ⟨u7, rfl, ho7, g7⟩
            have hS7 := And.intro (g7.cell HS3.out.1) (HS3.out.2.gr g7)
            have r7 := g7.cell HR3.out
            obtain ⟨A7, c7, rfl, -, -⟩ := ho7.form
            rw [← HNX.out] at ho7 ⊢
            have gb := (Gr.refl w7).alloc (.cells (tcs t (.slice A7 nx c7)) 47)
            have hS8 := And.intro (gb.cell hS7.1) (hS7.2.gr gb)
            have r8 := gb.cell r7
            have HR7 := Lib.hid r7
            have HR8 := Lib.hid r8
            have HS8 := Lib.hid hS8
            have HO7 := Lib.hid ho7
            have HG7 := Lib.hid g7
            clear ho7 g7 gb r3 r7 r8 hS8
            go_wp2_with fail
            refine hK.out _ _ hS7 (fun _ => ?_)
            clear hK K hS7
            try simp only [Act.put, List.setIfInBounds_toArray, List.set_cons_zero, List.set_cons_succ]
            refine wpAnyH_ready (rs := [11]) (by kernel_rfl) (by simp) ?_
            refine AllReadyH.cons rfl (fun K hK => ?_) AllReadyH.nil
            go_simp
            refine hK.out _ _ HS8.out (fun _ => ?_)
            clear hK K
            try simp only [Act.put, List.setIfInBounds_toArray, List.set_cons_zero, List.set_cons_succ]
          case' refine_2 =>
            go_simp
            go_at_call 52
            refine (HCP.out _ HG3.out).mono ?_
            rintro e w7 ⟨u7, rfl, ho7, g7⟩
            have hS7 := And.intro (g7.cell HS3.out.1) (HS3.out.2.gr g7)
            have r7 := g7.cell HR3.out
            obtain ⟨A7, c7, rfl, -, -⟩ := ho7.form
            rw [← HNX.out] at ho7 ⊢
            have gb := (Gr.refl w7).alloc (.cells (tcs t (.slice A7 nx c7)) 47)
            have hS8 := And.intro (gb.cell hS7.1) (hS7.2.gr gb)
            have r8 := gb.cell r7
            have HR7 := Lib.hid r7
            have HR8 := Lib.hid r8
            have HS8 := Lib.hid hS8
            have HO7 := Lib.hid ho7
            have HG7 := Lib.hid g7
            clear ho7 g7 gb r3 r7 r8 hS8
            go_wp2_with fail
            refine hK.out _ _ hS7 (fun _ => ?_)
            clear hK K hS7
            try simp only [Act.put, List.setIfInBounds_toArray, List.set_cons_zero, List.set_cons_succ]
            refine wpAnyH_ready (rs := [3, 11]) (by kernel_rfl) (by simp) ?_
            refine AllReadyH.cons rfl (fun K hK => ?_) (AllReadyH.cons rfl (fun K hK => ?_) AllReadyH.nil)
            case' refine_1 =>
              have r9 := HR7.out
              go_simp
              refine hK.out _ _ ⟨HG7.out.cell HS3.out.1, HS3.out.2.gr HG7.out⟩ (fun _ => ?_)
              clear hK K r9
              try simp only [Act.put, List.setIfInBounds_toArray, List.set_cons_zero, List.set_cons_succ]
              refine wpAnyH_ready (rs := [11]) (by kernel_rfl) (by simp) ?_
              refine AllReadyH.cons rfl (fun K hK => ?_) AllReadyH.nil
              go_simp
              refine hK.out _ _ HS8.out (fun _ => ?_)
              clear hK K
              try simp only [Act.put, List.setIfInBounds_toArray, List.set_cons_zero, List.set_cons_succ]
            case' refine_2 =>
              go_simp
              refine hK.out _ _ HS8.out (fun _ => ?_)
              clear hK K
              try simp only [Act.put, List.setIfInBounds_toArray, List.set_cons_zero, List.set_cons_succ]
              refine wpAnyH_ready (rs := [3]) (by kernel_rfl) (by simp) ?_
              refine AllReadyH.cons rfl (fun K hK => ?_) AllReadyH.nil
              have r9 := HR8.out
              go_simp
              refine hK.out _ _ HS8.out (fun _ => ?_)
              clear hK K r9
              try simp only [Act.put, List.setIfInBounds_toArray, List.set_cons_zero, List.set_cons_succ]
          all_goals
            obtain ⟨w8, hw8⟩ : ∃ x, x = w7.alloc (.cells (tcs t (.slice A7 nx c7)) 47) := ⟨_, rfl⟩
            have g78 : Gr w7 w8 := by rw [hw8]; exact (Gr.refl w7).alloc _
            have hn8 : XFix w8 w7.heap.size 0 t (.slice A7 nx c7) := by
              obtain ⟨W', hW', _, hx'⟩ := xbox w7 t (.slice A7 nx c7)
              rw [hw8, ← hW']
              exact hx'
            have hS8 := HS8.out
            rw [← hw8] at hS8 ⊢
            have g18 : Gr wr w8 := HG3.out.trans (HG7.out.trans g78)
            have hri8 := HRI.out.next g18
            have hB1 := HB1.out
            have hmz : wo.heap.size ≤ w8.heap.size := hri8.mid.size
            have hs8 : TOO w8 (w.heap.size + 3) (S3.v ⟨A7, nx, c7⟩) t.ops := by
              refine own_gr (own_le HO7.out ?_) g78
              have h4 : wr.heap.size ≤ W3.heap.size := HG3.out.size
              have h5 : wo.heap.size ≤ wr.heap.size := HRI.out.mid.size
              omega
            refine wpAnyH_ready (rs := [12]) (by kernel_rfl) (by simp) ?_
            refine AllReadyH.cons rfl (fun K hK => ?_) AllReadyH.nil
            refine step_append_tx rfl (.tmp 21) (.tmp 29) rfl wo.heap.size A d c w7.heap.size R (t, ⟨A7, nx, c7⟩) rfl rfl hri8.row hn8 HLEN.out hmz ?_
            intro A9 c9 w9 hown9 kp9
            have hri10 := hri8.more hlt hB1 hdl HT.out.symm hs8 kp9 hown9
            have hb9 := own_below hri8.row kp9
            have hx9 := (hri8.a.keep (hb9 _ (by omega) hri8.a.lt)).at hlt
            have hx10 := hri10.a.at hlt
            rw [← HA0.out, ← HN0.out, ← HC0.out] at hx9 hx10
            have hg9 : Gr w w9 := hri8.gr.grown hri8.row (by omega) kp9
            have hS9 := And.intro hx9 (HXX.out.gr hg9)
            have hS10 := And.intro hx10 (HXX.out.gr hri10.gr)
            have hbb9 : LBox w9 (w.heap.size + 1 + 1) us := hri8.b.keep (hb9 _ (by omega) hri8.b.lt)
            have s9 := hbb9.at hlt
            have f9 : w9.frozen? ⟨w.heap.size + 1 + 1, k, none⟩ = false := unfrozen_of_block hbb9.box k
            have HRI10 := Lib.hid hri10
            have HS10 := Lib.hid hS10
            have HS9 := Lib.hid hS9
            clear hx9 hx10 hg9 hS9 hS10 hbb9 hri10 hb9 hs8 hri8 g18 hS8 hn8 g78 kp9 hown9 hw8
            refine hK.out _ _ HS9.out (fun _ => ?_)
            clear hK K
            try simp only [Act.put, List.setIfInBounds_toArray, List.set_cons_zero, List.set_cons_succ]
            refine wpAnyH_ready (rs := [13]) (by kernel_rfl) (by simp) ?_
            refine AllReadyH.cons rfl (fun K hK => ?_) AllReadyH.nil
            go_simp
            refine hK.out _ _ HS9.out (fun _ => ?_)
            clear hK K
            try simp only [Act.put, List.setIfInBounds_toArray, List.set_cons_zero, List.set_cons_succ]
            refine wpAnyH_ready (rs := [14]) (by kernel_rfl) (by simp) ?_
            refine AllReadyH.cons rfl (fun K hK => ?_) AllReadyH.nil
            go_simp
            refine hK.out _ _ HS10.out (fun _ => ?_)
            clear hK K s9 f9
            refine wpAnyH_done (by kernel_rfl) ?_ _
            go_wp2_with fail
            go_roundw
            case measure => simp [intOf]; omega
            case rel => exact ⟨d + 1, by omega, by go_num, Lib.hid ⟨_, _, _, _, HRI10.out⟩⟩
        · obtain rfl : d = n := by omega
          have HCC : Hid (∃ ur, RcR w u l (k + 1) ur wr) := Lib.hid ⟨us, HRI.out.a, HRI.out.z, HRI.out.b, fun j hj => by
            have hri := HRI.out
            by_cases e : j = k
            · subst e
              rw [hri.at']
              have ht : texts R = l j := by rw [hri.tx, HN.out, List.take_length]
              have hl : R.length = d := by rw [← texts_len, ht, HN.out]
              refine ⟨R, ht, ?_, hri.ops⟩
              show wr.ownsRow _ _ _ _ R.length _
              rw [hl]
              exact own_le hri.row HB1.out
            · rw [hri.ne j e]
              exact (HCR.out.xn j (by omega)).mid hri.mid, fun j hj => by rw [HRI.out.ne j (by omega)]; exact HCR.out.mt j (by omega), HRI.out.gr⟩
          have hdd : ¬ ((d : Int) < (d : Int)) := by omega
          go_wp2_with fail
          go_roundw
          case measure => simp [intOf]; omega
          case rel => exact ⟨k + 1, by omega, by go_num, HCC⟩
    · obtain ⟨q0, q1, q2, q3, q4, q5, q6, q7⟩ := HCR.out.b.all
      have hz := HCR.out.z
      obtain ⟨s0, s1, s2, s3, s4, s5, s6, s7⟩ := hz.all
      have f0 := unfrozen_of_block hz.box 0
      have f1 := unfrozen_of_block hz.box 1
      have f2 := unfrozen_of_block hz.box 2
      have f3 := unfrozen_of_block hz.box 3
      have f4 := unfrozen_of_block hz.box 4
      have f5 := unfrozen_of_block hz.box 5
      have f6 := unfrozen_of_block hz.box 6
      have f7 := unfrozen_of_block hz.box 7
      have hge : ¬ ((k : Int) < 8) := by omega
      have HLV : Hid (∀ i, i < 8 → XN wo (w.heap.size + 3) (.slice (ur i).a (ur i).n (ur i).c) (l i)) := Lib.hid fun i hi => HCR.out.xn i (by omega)
      have HG2 := Lib.hid HCR.out.gr
      clear hz
      go_wp2_with fail
      refine bodyPost_ret (v := .agg (lcells ur)) (by simp [results, Tryz.results17, go_sem, *]) rfl ⟨ur, rfl, ?_, ?_⟩
      · show LN (putCells wo (w.heap.size + 1) 0 [.slice (ur 0).a (ur 0).n (ur 0).c, .slice (ur 1).a (ur 1).n (ur 1).c, .slice (ur 2).a (ur 2).n (ur 2).c, .slice (ur 3).a (ur 3).n (ur 3).c, .slice (ur 4).a (ur 4).n (ur 4).c, .slice (ur 5).a (ur 5).n (ur 5).c, .slice (ur 6).a (ur 6).n (ur 6).c, .slice (ur 7).a (ur 7).n (ur 7).c]) w.heap.size ur l
        exact fun i hi => ((HLV.out i hi).mid (mid_putCells (by omega) _ _ _)).le (by omega)
      · show Gr w (putCells wo (w.heap.size + 1) 0 [.slice (ur 0).a (ur 0).n (ur 0).c, .slice (ur 1).a (ur 1).n (ur 1).c, .slice (ur 2).a (ur 2).n (ur 2).c, .slice (ur 3).a (ur 3).n (ur 3).c, .slice (ur 4).a (ur 4).n (ur 4).c, .slice (ur 5).a (ur 5).n (ur 5).c, .slice (ur 6).a (ur 6).n (ur 6).c, .slice (ur 7).a (ur 7).n (ur 7).c])
        exact Gr.putCells (Nat.le_succ _) _ _ HG2.out
end Go.Proofs.YtnjmgknicffcbaaGreatDoor
