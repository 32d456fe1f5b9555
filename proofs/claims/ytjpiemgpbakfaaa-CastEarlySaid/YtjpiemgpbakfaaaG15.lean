/- Texts CutG, joined. -/
import Derived.Test.YtjpiemgpbakfaaaG14
import Derived.ArgAppend
/- Walks: slices.Clip of transactions; the program's Add. -/
namespace Go.Proofs.Ytjpiemgpbakfaaa
open Go.RowKit Go.Joins
set_option linter.unusedSimpArgs false
set_option linter.unusedVariables false

set_option maxRecDepth 100000 in
theorem slice3_txs (A : Option Addr) {n c : Nat} (hk : n ≤ c) (W : World) : (Instr.slice 22 (.slice A n c) none (some (.int .i64 (n : Int))) (some (.int .i64 (n : Int)))).run Try.prog W = .ok (.slice A n n) W := by
  have hz : ∀ W : World, (sizeOf (Try.prog.elem 22)).run Try.prog W = .ok 12 W := fun W => by show _ = _; kernel_rfl
  rw [run_slice_hm W _ A n c Try.underlying22 .i64 .i64 (n : Int) (n : Int) (by omega) (by omega) (by omega), hz]
  show Result.ok (sliced A 0 (n : Int).toNat (n : Int).toNat 12) W = _
  unfold sliced
  rw [Int.toNat_natCast]
  cases A with
  | none => simp
  | some a => simp [Addr.add]
set_option maxRecDepth 100000 in
theorem clip_any (A : Option Addr) (n c : Nat) (hn : n ≤ c) (w : World) :
    Calls Try.prog 31 #[.slice A n c] w fun e w' => e = .returned (.slice A n n) ∧ w = w' := by
  have hs := fun W => slice3_txs A hn W
  go_enter Try.func31, Try.ntmps31
  go_wp2_with fail
  go_ret
  exact ⟨rfl, rfl⟩
set_option maxRecDepth 100000 in
/-- append of one transaction to a slice without room: it comes to new memory. -/
theorem step_append_clip {ops : Array Oper} {o : Oper} {a : Act} {K : Act → World → Prop} {Q : Exit → Act → World → Prop} {E : Prop} {W : World} (hgd : o.guard = none) (s x : Operand)
    (ho : o.op = .call { callee := .builtin .append, args := #[s, x], argTypes := #[22, 22] })
    (A : Option Addr) (n bn : Nat) (R : List TR) (t : TR) (hs : a.eval s = .slice A n n) (hx : a.eval x = .slice (some ⟨bn, 0, none⟩) 1 1) (hR : SL W 12 (.slice A n n) n (trs R)) (ht : XFix W bn 0 t.1 t.2.v)
    (hlen : (n + 1) * 112 ≤ 140737488355328)
    (h : ∀ A' c' w', w'.ownsRow W.heap.size 38 12 (.slice A' (n + 1) c') (n + 1) (trs (R ++ [t])) → Gr W w' → K (a.put o.dst (.slice A' (n + 1) c')) w') :
    if Region.wanted o (yielded ops a.tmps) = true then Oper.wp Try.prog o a W K Q else E := by
  have hw : Region.wanted o (yielded ops a.tmps) = true := by simp [Region.wanted, hgd]
  rw [if_pos hw]
  obtain ⟨i0, hi, hz0, hz1, hz2⟩ := info_parts infoTxn
  have hnews : ∀ j u, (trcells t)[j]? = some u → W.cell? ((⟨bn, 0, none⟩ : Addr).add j) = some u := fun j u hu => by
    have hj : j < 12 := by have := (List.getElem?_eq_some_iff.1 hu).1; rw [trcells_len] at this; exact this
    obtain ⟨x0, x1, x2, x3, x4, x5, x6, x7, x8, x9, x10, x11⟩ := ht
    rw [Go.WideShapes.add_plain]
    match j, hj with
    | 0, _ => injection hu with hu; rw [← hu]; exact x0
    | 1, _ => injection hu with hu; rw [← hu]; exact x1
    | 2, _ => injection hu with hu; rw [← hu]; exact x2
    | 3, _ => injection hu with hu; rw [← hu]; exact x3
    | 4, _ => injection hu with hu; rw [← hu]; exact x4
    | 5, _ => injection hu with hu; rw [← hu]; exact x5
    | 6, _ => injection hu with hu; rw [← hu]; exact x6
    | 7, _ => injection hu with hu; rw [← hu]; exact x7
    | 8, _ => injection hu with hu; rw [← hu]; exact x8
    | 9, _ => injection hu with hu; rw [← hu]; exact x9
    | 10, _ => injection hu with hu; rw [← hu]; exact x10
    | 11, _ => injection hu with hu; rw [← hu]; exact x11
  have happ : trs (R ++ [t]) = trs R ++ trcells t := by unfold trs; rw [List.flatMap_append]; simp
  have run : ∃ v' w', (Builtin.append_ #[22, 22] o.type #[.slice A n n, .slice (some ⟨bn, 0, none⟩) 1 1]).run Try.prog W = .ok v' w' ∧ w'.ownsRow W.heap.size 38 12 v' (n + 1) (trs R ++ trcells t) ∧ W.grownBy w' none := by
    obtain ⟨A', c', hv, h1, ⟨h2, h3⟩, h4, h5⟩ := hR
    injection hv with e1 e2 e3
    subst e1 e3
    cases A with
    | none =>
      obtain rfl : n = 0 := h3 rfl
      have hnil : trs R = [] := List.length_eq_zero_iff.1 (by rw [h4, Nat.zero_mul])
      rw [hnil]
      have h6 : (1 : Nat) * 112 ≤ 140737488355328 := by omega
      obtain ⟨v', w', hr, g1, g2, _⟩ := run_append_own_at (P := Try.prog) W W.heap.size 22 o.type 38 i0 _ 12 112 Try.underlying22 hi hz0 hz1 hz2 rfl (by decide) (.slice none 0 0) 0 [] (World.ownsRow_nil W _ _ _) ⟨bn, 0, none⟩ 1 1 (trcells t) rfl hnews (fun u hu => trs_one [t] u (by simpa [trs] using hu)) (by decide) (by omega) (Nat.le_refl _)
      exact ⟨v', w', hr, g1, g2⟩
    | some ad =>
      refine run_append_arg_grows (P := Try.prog) (w := W) 22 o.type 38 i0 _ 12 112 Try.underlying22 hi hz0 hz1 hz2 rfl (by decide) ad n n (trs R) h4 (fun j u hu => ?_) ⟨bn, 0, none⟩ 1 1 (trcells t) rfl hnews (by omega) (by unfold maxLen; omega) hlen
      obtain ⟨b, off, ha, hc⟩ := h5 j u hu
      injection ha with ha
      subst ha
      rw [Go.WideShapes.add_plain]
      exact hc
  obtain ⟨v', w', hr, h1, h2⟩ := run
  obtain ⟨A', c', rfl, _⟩ := own_form h1
  unfold Oper.wp execOp
  simp only [ho, resolve, invoke, builtin, Sem.run_bind, Sem.run_pure, Result.andThen_ok, List.map_toArray, List.map_cons, List.map_nil, hs, hx, hr]
  exact h A' c' w' (by rw [happ]; exact h1) ⟨h2.1, h2.2, h2.3, h2.4, fun k hk => h2.5 k hk (by intro e; cases e)⟩
def nilL : LG := fun _ => []
abbrev zlc : Array Value := #[.slice none 0 0, .slice none 0 0, .slice none 0 0, .slice none 0 0, .slice none 0 0, .slice none 0 0, .slice none 0 0, .slice none 0 0]
def Z3 : Nat → S3 := fun _ => ⟨none, 0, 0⟩
theorem XV.nil (w : World) : XV w (.slice none 0 0) [] := ⟨none, 0, rfl, Nat.le_refl _, ⟨Nat.zero_le _, fun _ => rfl⟩, fun j hj => absurd hj (by simp)⟩
theorem LV.nil (w : World) : LV w Z3 nilL := fun _ _ => XV.nil w
theorem LN.nil (w : World) (B : Nat) : LN w B Z3 nilL := fun _ _ => ⟨[], rfl, World.ownsRow_nil w _ _ _, fun r hr => by cases hr⟩
/-- What Add answers: its error, its logs. -/
def addR (l : LG) (t : TX) : Nat × LG :=
  if okTx t then
    if t.seq ≤ (l t.origin.toNat).length then
      match (l t.origin.toNat)[t.seq - 1]? with
      | some x => if sameT x t = true then (0, l) else (91, nilL)
      | none => (91, nilL)
    else if behindE l t = 0 then (if (l t.origin.toNat).length < 1024 then (0, addL l t.origin.toNat t) else (4, nilL)) else (behindE l t, nilL)
  else (80, nilL)
theorem boxesAd (u : Nat → S3) (t : TX) (v : Value) (w : World) : ∃ W, W = ((w.alloc (.cells (lcells u) 24)).alloc (.cells (tcs t v) 38)).alloc (.cells zlc 24) ∧ Gr w W ∧ W.heap.size = w.heap.size + 3 ∧
    LBox W w.heap.size u ∧ XFix W (w.heap.size + 1) 0 t v ∧ LBox W (w.heap.size + 1 + 1) Z3 := by
  obtain ⟨W, hW, hg, hs, hL, hX⟩ := boxesLT u t v w
  rw [← hW]
  have e : (w.alloc (.cells (lcells u) 24)).heap.size = w.heap.size + 1 := by simp
  refine ⟨_, rfl, hg.alloc _, by simp [hs], hL.gr ((Gr.refl _).alloc _), hX.gr ((Gr.refl _).alloc _), ⟨?_⟩⟩
  have h := heap_alloc W zlc 24
  rw [hs] at h
  exact h

theorem LBox.zero {w : World} {b : Nat} (h : LBox w b Z3) : w.cell? ⟨b, 0, none⟩ = some (.slice none 0 0) ∧ w.cell? ⟨b, 1, none⟩ = some (.slice none 0 0) ∧ w.cell? ⟨b, 2, none⟩ = some (.slice none 0 0) ∧ w.cell? ⟨b, 3, none⟩ = some (.slice none 0 0) ∧ w.cell? ⟨b, 4, none⟩ = some (.slice none 0 0) ∧ w.cell? ⟨b, 5, none⟩ = some (.slice none 0 0) ∧ w.cell? ⟨b, 6, none⟩ = some (.slice none 0 0) ∧ w.cell? ⟨b, 7, none⟩ = some (.slice none 0 0) := h.all
theorem XFix.far {w : World} {b off : Nat} {t : TX} {v : Value} (h : XFix w b off t v) {p : Addr} (hp : p.block ≠ b) (u : Value) : XFix (w.setCell p u) b off t v := by
  obtain ⟨h1, h2, h3, h4, h5, h6, h7, h8, h9, h10, h11, h12⟩ := h
  have far : ∀ {q : Addr} {x : Value}, q.block = b → w.cell? q = some x → (w.setCell p u).cell? q = some x := fun {q x} hq hc => by
    rw [World.cell?_setCell_far w p q u (by rw [hq]; exact hp)]; exact hc
  exact ⟨far rfl h1, far rfl h2, far rfl h3, far rfl h4, far rfl h5, far rfl h6, far rfl h7, far rfl h8, far rfl h9, far rfl h10, far rfl h11, far rfl h12⟩
theorem copied_ln {w9 : World} {B B' : Nat} {u : Nat → S3} {l : LG} {b : Nat} (h : LN w9 B u l) (hb : b < B) (hB : B' ≤ B) (cs : List Value) (o : Nat) : LN (putCells w9 b o cs) B' u l := fun i hi => ((h i hi).mid (mid_putCells hb cs o w9)).le hB
theorem fitC_add {l : LG} {t : TX} {i : Nat} (h : FitC l) (hl : (l i).length < 1024) (ht : t.ops.length * 48 ≤ 140737488355328 ∧ ∀ o ∈ t.ops, o.key.size ≤ 281474976710656 ∧ o.elem.size ≤ 281474976710656) : FitC (addL l i t) := by
  refine ⟨fun j hj => ?_, fun j x hj hx => ?_⟩
  · have := h.len j hj
    rw [addL_size]
    split <;> omega
  · unfold addL at hx
    by_cases e : j = i
    · rw [if_pos e] at hx
      rcases List.mem_append.1 hx with hx | hx
      · exact h.tx i x (by omega) hx
      · simp only [List.mem_singleton] at hx
        subst hx
        exact ht
    · rw [if_neg e] at hx
      exact h.tx j x hj hx

set_option maxRecDepth 100000 in
set_option maxHeartbeats 4000000 in
theorem add_any (u : Nat → S3) (l : LG) (t : TX) (v : Value) (w : World) (h : LV w u l) (hf : FitC l) (hv : TOV w v t.ops) (hq : t.seq < 18446744073709551616) (ht : t.ops.length * 48 ≤ 140737488355328 ∧ ∀ o ∈ t.ops, o.key.size ≤ 281474976710656 ∧ o.elem.size ≤ 281474976710656) :
    Calls Try.prog 22 #[.agg (lcells u), .agg (tcs t v)] w fun e w' => ∃ u', e = .returned (.tuple #[.agg (lcells u'), .int .i64 ((addR l t).1 : Int)]) ∧ LN w' w.heap.size u' (addR l t).2 ∧ Gr w w' := by
  obtain ⟨Av, cv, rfl⟩ := tov_form hv
  obtain ⟨W, hW, hg, hsz, hL, hX, hZ⟩ := boxesAd u t (.slice Av t.ops.length cv) w
  have HG := Lib.hid hg
  have HL := Lib.hid hL
  have HX := Lib.hid hX
  have HZ := Lib.hid hZ
  have HLV := Lib.hid (h.gr hg)
  have HLW := Lib.hid h
  have HTV := Lib.hid (hv.gr hg)
  have HTW := Lib.hid hv
  have HFC := Lib.hid hf
  have HT := Lib.hid ht
  have HCK := Lib.hid (check8_any t (.slice Av t.ops.length cv) hq (fun o ho => by have := (ht.2 o ho).1; omega) W (hv.gr hg))
  obtain ⟨nv, hnv⟩ : ∃ n, n = t.ops.length := ⟨_, rfl⟩
  rw [← hnv] at HX HTV HTW HCK hW ⊢
  have HNV := Lib.hid hnv
  obtain ⟨x0, x1, x2, x3, x4, x5, x6, x7, x8, x9, x10, x11⟩ := HX.out
  clear h hf hv ht hg hsz hL hX hZ hnv
  by_cases hok : okTx t
  case neg =>
    have HF : Hid (addR l t = (80, nilL)) := Lib.hid (by unfold addR; rw [if_neg hok])
    rw [check_no hok] at HCK
    clear hok
    go_enter Try.func22, Try.ntmps22
    go_upto_region 1 with (fail)
    rw [← hW]
    clear hW
    go_wp2_with fail
    refine HCK.out.mono ?_
    rintro e w1 ⟨rfl, g1⟩
    have HG1 := Lib.hid g1
    clear g1 x0 x1 x2 x3 x4 x5 x6 x7 x8 x9 x10 x11
    obtain ⟨s0, s1, s2, s3, s4, s5, s6, s7⟩ := (HZ.out.gr HG1.out).zero
    have hzb := (HZ.out.gr HG1.out).box
    have f0 := unfrozen_of_block hzb 0
    have f1 := unfrozen_of_block hzb 1
    have f2 := unfrozen_of_block hzb 2
    have f3 := unfrozen_of_block hzb 3
    have f4 := unfrozen_of_block hzb 4
    have f5 := unfrozen_of_block hzb 5
    have f6 := unfrozen_of_block hzb 6
    have f7 := unfrozen_of_block hzb 7
    clear hzb
    go_wp2_with fail
    refine bodyPost_ret (v := .tuple #[.agg #[.slice none 0 0, .slice none 0 0, .slice none 0 0, .slice none 0 0, .slice none 0 0, .slice none 0 0, .slice none 0 0, .slice none 0 0], .int .i64 80]) (by simp [results, Try.results22, go_sem, *]) rfl ⟨Z3, by rw [HF.out]; rfl, by rw [HF.out]; exact LN.nil _ _, ?_⟩
    show Gr w (putCells w1 (w.heap.size + 1 + 1) 0 [.slice none 0 0, .slice none 0 0, .slice none 0 0, .slice none 0 0, .slice none 0 0, .slice none 0 0, .slice none 0 0, .slice none 0 0])
    exact Gr.putCells (by omega) _ _ (HG.out.trans HG1.out)
  rw [check_yes hok] at HCK
  obtain ⟨i, hi⟩ : ∃ i : Nat, t.origin = (i : Int) := ⟨t.origin.toNat, by have := hok.1.1; omega⟩
  have h8 : i < 8 := by have := hok.1.2.1; omega
  have hti : t.origin.toNat = i := by rw [hi]; simp
  have hs1 : 1 ≤ t.seq := hok.1.2.2.1
  have HOK := Lib.hid hok
  have HADD : Hid (addR l t = if t.seq ≤ (l i).length then (match (l i)[t.seq - 1]? with | some x => if sameT x t = true then (0, l) else (91, nilL) | none => (91, nilL)) else if behindE l t = 0 then (if (l i).length < 1024 then (0, addL l i t) else (4, nilL)) else (behindE l t, nilL)) := Lib.hid (by unfold addR; rw [if_pos hok, hti])
  have hi0 : (0 : Int) ≤ t.origin := by omega
  have hi8 : t.origin < 8 := by omega
  have HI := Lib.hid hi
  have HTI := Lib.hid hti
  clear hok hti hi
  go_enter Try.func22, Try.ntmps22
  go_upto_region 1 with (fail)
  rw [← hW]
  clear hW

  by_cases hsl : t.seq ≤ (l i).length
  case pos =>
    have hd : t.seq - 1 < (l i).length := by omega
    obtain ⟨b, off, ha, xv, hx0, hx⟩ := HLV.out.cell h8 hd
    obtain ⟨x, hx⟩ : ∃ x, x = (l i)[t.seq - 1] := ⟨_, rfl⟩
    rename_i hxx
    rw [← hx] at hx0 hxx
    obtain ⟨Ax, cx, rfl⟩ := tov_form hx0
    have HXV := Lib.hid hx0
    obtain ⟨nx, hnx⟩ : ∃ n, n = x.ops.length := ⟨_, rfl⟩
    rw [← hnx] at hxx HXV
    have HXX := Lib.hid hxx
    have HAT : Hid ((l i)[t.seq - 1]? = some x) := Lib.hid (by rw [hx]; exact List.getElem?_eq_getElem hd)
    obtain ⟨r, hr⟩ : ∃ r, r = sameT x t := ⟨_, rfl⟩
    have HSM := Lib.hid (fun w1 (g : Gr W w1) => same8_any x t (.slice Ax nx cx) (.slice Av nv cv) w1 (HXV.out.gr g) (HTV.out.gr g))
    rw [← hr] at HSM
    have HF0 : Hid (addR l t = if r = true then (0, l) else (91, nilL)) := Lib.hid (by rw [HADD.out, if_pos hsl, HAT.out]; show (if sameT x t = true then (0, l) else (91, nilL)) = _; rw [← hr])
    have hun := HLV.out.len h8
    have hle := HLV.out.le h8
    have hlw := u64_len hle
    obtain ⟨n, hn⟩ : ∃ n, n = (u i).n := ⟨_, rfl⟩
    obtain ⟨c, hc⟩ : ∃ c, c = (u i).c := ⟨_, rfl⟩
    have hnl : n = (l i).length := by rw [hn, hun]
    rw [← hnl] at hle hlw hsl hd
    have HA := Lib.hid ha
    have HN := Lib.hid hn
    have HC := Lib.hid hc
    have hsub : IntKind.u64.wrap ((t.seq : Int) - 1) = ((t.seq - 1 : Nat) : Int) := by simp [IntKind.wrap, IntKind.bits, IntKind.signed]; omega
    obtain ⟨d, hdd⟩ : ∃ d, d = t.seq - 1 := ⟨_, rfl⟩
    rw [← hdd] at hsub hd HXX
    have hd0 : (0 : Int) ≤ (d : Int) := by omega
    have hd1 : (d : Int) < (n : Int) := by omega
    clear hun hnl hn hc ha hr hx hnx hx0 hxx hdd
    go_wp2_with fail
    refine HCK.out.mono ?_
    rintro e w1 ⟨rfl, g1⟩
    have HG1 := Lib.hid g1
    obtain ⟨x0, x1, x2, x3, x4, x5, x6, x7, x8, x9, x10, x11⟩ := HX.out.gr g1
    have li := (HL.out.gr g1).at h8
    rw [HA.out, ← HN.out, ← HC.out, ← HTI.out] at li
    clear g1
    go_upto_region 6 with (fail)
    clear x0 x1 x2 x3 x4 x5 x6 x7 x8 x9 x10 x11 li
    refine qRegion (fun w' => XFix w' b (off + d * 12) x (.slice Ax nx cx) ∧ XFix w' (w.heap.size + 1) 0 t (.slice Av nv cv) ∧ Gr W w') (by kernel_rfl) (by kernel_rfl) ⟨HXX.out.gr HG1.out.drew, HX.out.gr HG1.out.drew, HG1.out.drew⟩ ?_
    iterate 7
      refine qTake (by kernel_rfl) ?_
      apply Exists.intro
      refine ⟨fun wq hq => ?_, ?_⟩
      · go_light
        obtain ⟨⟨d0, d1, d2, d3, d4, d5, d6, d7, d8, d9, d10, d11⟩, ⟨e0, e1, e2, e3, e4, e5, e6, e7, e8, e9, e10, e11⟩, hgq⟩ := hq
        go_simp
        try with_reducible rfl
        done
      try simp only [Act.put, List.setIfInBounds_toArray, List.set_cons_zero, List.set_cons_succ]
    refine qCall (by kernel_rfl) ?_
    apply Exists.intro
    refine ⟨?_, ?_⟩
    · apply Exists.intro
      apply Exists.intro
      refine ⟨fun wq => ?_, fun wq hq => ?_⟩
      · go_light
        go_simp
        exact ⟨rfl, rfl⟩
      · exact (HSM.out wq hq.2.2).mono fun e w'' ⟨he, hg⟩ => ⟨he, hq.1.gr hg, hq.2.1.gr hg, hq.2.2.trans hg⟩
    try simp only [Act.put, List.setIfInBounds_toArray, List.set_cons_zero, List.set_cons_succ]
    iterate 1
      refine qTake (by kernel_rfl) ?_
      apply Exists.intro
      refine ⟨fun wq hq => ?_, ?_⟩
      · go_light
        obtain ⟨⟨d0, d1, d2, d3, d4, d5, d6, d7, d8, d9, d10, d11⟩, ⟨e0, e1, e2, e3, e4, e5, e6, e7, e8, e9, e10, e11⟩, hgq⟩ := hq
        go_simp
        try with_reducible rfl
        done
      try simp only [Act.put, List.setIfInBounds_toArray, List.set_cons_zero, List.set_cons_succ]
    refine qNil ?_
    rintro w3 ⟨-, -, hg3⟩
    have HG3 := Lib.hid hg3
    clear hg3
    rcases r with _ | _
    · have HF : Hid (addR l t = (91, nilL)) := Lib.hid (by rw [HF0.out]; rfl)
      obtain ⟨s0, s1, s2, s3, s4, s5, s6, s7⟩ := (HZ.out.gr HG3.out).zero
      have hzb := (HZ.out.gr HG3.out).box
      have f0 := unfrozen_of_block hzb 0
      have f1 := unfrozen_of_block hzb 1
      have f2 := unfrozen_of_block hzb 2
      have f3 := unfrozen_of_block hzb 3
      have f4 := unfrozen_of_block hzb 4
      have f5 := unfrozen_of_block hzb 5
      have f6 := unfrozen_of_block hzb 6
      have f7 := unfrozen_of_block hzb 7
      clear hzb
      go_wp2_with fail
      refine bodyPost_ret (v := .tuple #[.agg #[.slice none 0 0, .slice none 0 0, .slice none 0 0, .slice none 0 0, .slice none 0 0, .slice none 0 0, .slice none 0 0, .slice none 0 0], .int .i64 91]) (by simp [results, Try.results22, go_sem, *]) rfl ⟨Z3, by rw [HF.out]; rfl, by rw [HF.out]; exact LN.nil _ _, ?_⟩
      show Gr w (putCells w3 (w.heap.size + 1 + 1) 0 [.slice none 0 0, .slice none 0 0, .slice none 0 0, .slice none 0 0, .slice none 0 0, .slice none 0 0, .slice none 0 0, .slice none 0 0])
      exact Gr.putCells (by omega) _ _ (HG.out.trans HG3.out)
    · have HF : Hid (addR l t = (0, l)) := Lib.hid (by rw [HF0.out]; rfl)
      have HCPY := Lib.hid (ccopy_any u l w3 (HLV.out.gr HG3.out) HFC.out)
      have HZ8 := Lib.hid (HZ.out.gr HG3.out)
      have HG8 := Lib.hid (HG.out.trans HG3.out)
      obtain ⟨l0, l1, l2, l3, l4, l5, l6, l7⟩ := (HL.out.gr HG3.out).all
      go_wp2_with fail
      refine HCPY.out.mono ?_
      rintro e w9 ⟨u9, rfl, hln9, g9⟩
      have HLN9 := Lib.hid hln9
      have HG9 := Lib.hid g9
      obtain ⟨s0, s1, s2, s3, s4, s5, s6, s7⟩ := (HZ8.out.gr g9).zero
      have hzb := (HZ8.out.gr g9).box
      have f0 := unfrozen_of_block hzb 0
      have f1 := unfrozen_of_block hzb 1
      have f2 := unfrozen_of_block hzb 2
      have f3 := unfrozen_of_block hzb 3
      have f4 := unfrozen_of_block hzb 4
      have f5 := unfrozen_of_block hzb 5
      have f6 := unfrozen_of_block hzb 6
      have f7 := unfrozen_of_block hzb 7
      have HZL := Lib.hid (Array.getElem?_eq_some_iff.1 HZ8.out.box).1
      clear hzb g9 hln9 l0 l1 l2 l3 l4 l5 l6 l7
      go_wp2_with fail
      refine bodyPost_ret (v := .tuple #[.agg (lcells u9), .int .i64 0]) (by simp [results, Try.results22, go_sem, *]) rfl ⟨u9, by rw [HF.out]; rfl, ?_, ?_⟩
      · rw [HF.out]
        show LN (putCells w9 (w.heap.size + 1 + 1) 0 [.slice (u9 0).a (u9 0).n (u9 0).c, .slice (u9 1).a (u9 1).n (u9 1).c, .slice (u9 2).a (u9 2).n (u9 2).c, .slice (u9 3).a (u9 3).n (u9 3).c, .slice (u9 4).a (u9 4).n (u9 4).c, .slice (u9 5).a (u9 5).n (u9 5).c, .slice (u9 6).a (u9 6).n (u9 6).c, .slice (u9 7).a (u9 7).n (u9 7).c]) w.heap.size u9 l
        exact copied_ln HLN9.out HZL.out HG8.out.size _ _
      · show Gr w (putCells w9 (w.heap.size + 1 + 1) 0 [.slice (u9 0).a (u9 0).n (u9 0).c, .slice (u9 1).a (u9 1).n (u9 1).c, .slice (u9 2).a (u9 2).n (u9 2).c, .slice (u9 3).a (u9 3).n (u9 3).c, .slice (u9 4).a (u9 4).n (u9 4).c, .slice (u9 5).a (u9 5).n (u9 5).c, .slice (u9 6).a (u9 6).n (u9 6).c, .slice (u9 7).a (u9 7).n (u9 7).c])
        exact Gr.putCells (by omega) _ _ (HG8.out.trans HG9.out)

  have HSL := Lib.hid hsl
  have hun := HLV.out.len h8
  have hle := HLV.out.le h8
  have hlw := u64_len hle
  obtain ⟨A, hA⟩ : ∃ A, A = (u i).a := ⟨_, rfl⟩
  obtain ⟨n, hn⟩ : ∃ n, n = (u i).n := ⟨_, rfl⟩
  obtain ⟨c, hc⟩ : ∃ c, c = (u i).c := ⟨_, rfl⟩
  have hnl : n = (l i).length := by rw [hn, hun]
  have HUN := Lib.hid hnl
  have HCAP := Lib.hid (show n ≤ c ∧ c ≤ maxLen by rw [hnl, hc]; exact HLV.out.cap h8)
  rw [← hnl] at hle hlw hsl
  have HA := Lib.hid hA
  have HN := Lib.hid hn
  have HC := Lib.hid hc
  clear hun hnl hA hn hc
  obtain ⟨bh, hbh⟩ : ∃ x, x = behindE l t := ⟨_, rfl⟩
  have HBH := Lib.hid (fun w1 (g : Gr W w1) => behind_any u l t Av nv cv w1 (HLV.out.gr g))
  rw [← hbh] at HBH
  have HBE := Lib.hid hbh
  clear hbh
  go_wp2_with fail
  refine HCK.out.mono ?_
  rintro e w1 ⟨rfl, g1⟩
  have HG1 := Lib.hid g1
  obtain ⟨x0, x1, x2, x3, x4, x5, x6, x7, x8, x9, x10, x11⟩ := HX.out.gr g1
  obtain ⟨l0, l1, l2, l3, l4, l5, l6, l7⟩ := (HL.out.gr g1).all
  have li := (HL.out.gr g1).at h8
  rw [← HA.out, ← HN.out, ← HC.out, ← HTI.out] at li
  clear g1
  go_wp2_with fail
  refine (HBH.out _ HG1.out).mono ?_
  rintro e w2 ⟨rfl, g2⟩
  have HG2 := Lib.hid (HG1.out.trans g2)
  clear g2 x0 x1 x2 x3 x4 x5 x6 x7 x8 x9 x10 x11 l0 l1 l2 l3 l4 l5 l6 l7 li
  by_cases hb0 : bh = 0
  case neg =>
    have HF : Hid (addR l t = (bh, nilL)) := Lib.hid (by rw [HADD.out, if_neg HSL.out, if_neg (by rw [← HBE.out]; exact hb0), HBE.out])
    have hbne : ¬ ((bh : Int) = 0) := by omega
    obtain ⟨s0, s1, s2, s3, s4, s5, s6, s7⟩ := (HZ.out.gr HG2.out).zero
    have hzb := (HZ.out.gr HG2.out).box
    have f0 := unfrozen_of_block hzb 0
    have f1 := unfrozen_of_block hzb 1
    have f2 := unfrozen_of_block hzb 2
    have f3 := unfrozen_of_block hzb 3
    have f4 := unfrozen_of_block hzb 4
    have f5 := unfrozen_of_block hzb 5
    have f6 := unfrozen_of_block hzb 6
    have f7 := unfrozen_of_block hzb 7
    clear hzb
    go_wp2_with fail
    refine bodyPost_ret (v := .tuple #[.agg #[.slice none 0 0, .slice none 0 0, .slice none 0 0, .slice none 0 0, .slice none 0 0, .slice none 0 0, .slice none 0 0, .slice none 0 0], .int .i64 (bh : Int)]) (by simp [results, Try.results22, go_sem, *]) rfl ⟨Z3, by rw [HF.out]; rfl, by rw [HF.out]; exact LN.nil _ _, ?_⟩
    show Gr w (putCells w2 (w.heap.size + 1 + 1) 0 [.slice none 0 0, .slice none 0 0, .slice none 0 0, .slice none 0 0, .slice none 0 0, .slice none 0 0, .slice none 0 0, .slice none 0 0])
    exact Gr.putCells (by omega) _ _ (HG.out.trans HG2.out)
  subst hb0
  have hnle : n ≤ 9223372036854775807 := hle
  by_cases hfull : 1024 ≤ n
  case pos =>
    have HF : Hid (addR l t = (4, nilL)) := Lib.hid (by rw [HADD.out, if_neg HSL.out, if_pos HBE.out.symm, if_neg (by rw [← HUN.out]; omega)])
    have hful : (1024 : Int) ≤ (n : Int) := by omega
    obtain ⟨s0, s1, s2, s3, s4, s5, s6, s7⟩ := (HZ.out.gr HG2.out).zero
    have hzb := (HZ.out.gr HG2.out).box
    have f0 := unfrozen_of_block hzb 0
    have f1 := unfrozen_of_block hzb 1
    have f2 := unfrozen_of_block hzb 2
    have f3 := unfrozen_of_block hzb 3
    have f4 := unfrozen_of_block hzb 4
    have f5 := unfrozen_of_block hzb 5
    have f6 := unfrozen_of_block hzb 6
    have f7 := unfrozen_of_block hzb 7
    clear hzb
    go_wp2_with fail
    refine bodyPost_ret (v := .tuple #[.agg #[.slice none 0 0, .slice none 0 0, .slice none 0 0, .slice none 0 0, .slice none 0 0, .slice none 0 0, .slice none 0 0, .slice none 0 0], .int .i64 4]) (by simp [results, Try.results22, go_sem, *]) rfl ⟨Z3, by rw [HF.out]; rfl, by rw [HF.out]; exact LN.nil _ _, ?_⟩
    show Gr w (putCells w2 (w.heap.size + 1 + 1) 0 [.slice none 0 0, .slice none 0 0, .slice none 0 0, .slice none 0 0, .slice none 0 0, .slice none 0 0, .slice none 0 0, .slice none 0 0])
    exact Gr.putCells (by omega) _ _ (HG.out.trans HG2.out)
  have hnf : ¬ ((1024 : Int) ≤ (n : Int)) := by omega
  have HF : Hid (addR l t = (0, addL l i t)) := Lib.hid (by rw [HADD.out, if_neg HSL.out, if_pos HBE.out.symm, if_pos (by rw [← HUN.out]; omega)])
  have HNF : Hid (n < 1024) := Lib.hid (by omega)
  obtain ⟨x0, x1, x2, x3, x4, x5, x6, x7, x8, x9, x10, x11⟩ := HX.out.gr HG2.out
  have HCL := Lib.hid (fun w => clip_any A n c HCAP.out.1 w)
  go_upto_region 14 with (fail)
  clear x0 x1 x2 x3 x4 x5 x6 x7 x8 x9 x10 x11
  have hg3 : Gr W w2.drew := HG2.out.drew
  refine wp_region_held_drew (S := fun w' => XFix w' (w.heap.size + 1) 0 t (.slice Av nv cv) ∧ Gr w w') (by kernel_rfl) ⟨HX.out.gr (HG2.out.drew), HG.out.trans HG2.out.drew⟩ (fun hHeld => ?_)
  refine hTake (i := 0) rfl (by kernel_rfl) (by kernel_rfl) (by kernel_rfl) (by kernel_rfl) (by assumption) ?_
  apply Exists.intro
  refine ⟨fun _ _ _ h => h, fun wq hq => ?_, ?_⟩
  · go_light
    obtain ⟨⟨e0, e1, e2, e3, e4, e5, e6, e7, e8, e9, e10, e11⟩, -⟩ := hq
    go_simp
    try with_reducible rfl
    done
  try simp only [Act.put, List.setIfInBounds_toArray, List.set_cons_zero, List.set_cons_succ]
  refine hTake (i := 1) rfl (by kernel_rfl) (by kernel_rfl) (by kernel_rfl) (by kernel_rfl) (by assumption) ?_
  apply Exists.intro
  refine ⟨fun _ _ _ h => h, fun wq hq => ?_, ?_⟩
  · go_light
    obtain ⟨⟨e0, e1, e2, e3, e4, e5, e6, e7, e8, e9, e10, e11⟩, -⟩ := hq
    go_simp
    try with_reducible rfl
    done
  try simp only [Act.put, List.setIfInBounds_toArray, List.set_cons_zero, List.set_cons_succ]
  refine hTake (i := 2) rfl (by kernel_rfl) (by kernel_rfl) (by kernel_rfl) (by kernel_rfl) (by assumption) ?_
  apply Exists.intro
  refine ⟨fun _ _ _ h => h, fun wq hq => ?_, ?_⟩
  · go_light
    obtain ⟨⟨e0, e1, e2, e3, e4, e5, e6, e7, e8, e9, e10, e11⟩, -⟩ := hq
    go_simp
    try with_reducible rfl
    done
  try simp only [Act.put, List.setIfInBounds_toArray, List.set_cons_zero, List.set_cons_succ]
  refine hTake (i := 4) rfl (by kernel_rfl) (by kernel_rfl) (by kernel_rfl) (by kernel_rfl) (by assumption) ?_
  apply Exists.intro
  refine ⟨fun _ _ _ h => h, fun wq hq => ?_, ?_⟩
  · go_light
    obtain ⟨⟨e0, e1, e2, e3, e4, e5, e6, e7, e8, e9, e10, e11⟩, -⟩ := hq
    go_simp
    try with_reducible rfl
    done
  try simp only [Act.put, List.setIfInBounds_toArray, List.set_cons_zero, List.set_cons_succ]
  generalize w2.drew = W3 at *
  obtain ⟨R, hR, hRs, hRo⟩ := sl_of_xv (HLW.out i h8)
  have hRl : R.length = n := by rw [← texts_len, hR, HUN.out]
  have HRT := Lib.hid hR
  have HRO := Lib.hid hRo
  have HRL := Lib.hid hRl
  have hRn : SL w 12 (.slice A n n) n (trs R) := by
    rw [← HA.out, ← HN.out, ← HC.out, hRl] at hRs
    obtain ⟨A', c', hv, q1, ⟨q2, q3⟩, q4, q5⟩ := hRs
    injection hv with e1 e2 e3
    subst e1 e3
    refine ⟨A, n, rfl, Nat.le_refl _, ⟨by unfold maxLen; omega, fun e => ?_⟩, q4, q5⟩
    have := q3 e
    omega
  have HRN := Lib.hid hRn
  clear hR hRs hRo hRl hRn
  have HGW3 := Lib.hid hHeld.2
  have HG3 := Lib.hid hg3
  have HX3 := Lib.hid hHeld.1
  have HS5 : Hid (XFix (W3.alloc (.cells (tcs t (.slice Av nv cv)) 38)) (w.heap.size + 1) 0 t (.slice Av nv cv) ∧ Gr w (W3.alloc (.cells (tcs t (.slice Av nv cv)) 38))) := Lib.hid ⟨HX3.out.gr ((Gr.refl _).alloc _), HGW3.out.alloc _⟩
  have HN5 : Hid (XFix (W3.alloc (.cells (tcs t (.slice Av nv cv)) 38)) W3.heap.size 0 t (.slice Av nv cv)) := Lib.hid (by
    obtain ⟨W', hW', _, hx'⟩ := xbox W3 t (.slice Av nv cv)
    rw [hW'] at hx'
    exact hx')
  refine wpAnyH_ready (rs := [3, 5]) (by kernel_rfl) (by simp) ?_
  refine AllReadyH.cons rfl (fun K hK => ?_) (AllReadyH.cons rfl (fun K hK => ?_) AllReadyH.nil)
  case' refine_1 =>
    go_simp
    go_at_call 31
    refine (HCL.out _).mono ?_
    rintro e w7 ⟨rfl, rfl⟩
    go_wp2_with fail
    refine hK.out _ _ ⟨HX3.out, HGW3.out⟩ (fun _ => ?_)
    clear hK K
    try simp only [Act.put, List.setIfInBounds_toArray, List.set_cons_zero, List.set_cons_succ]
    refine wpAnyH_ready (rs := [5]) (by kernel_rfl) (by simp) ?_
    refine AllReadyH.cons rfl (fun K hK => ?_) AllReadyH.nil
    go_simp
    refine hK.out _ _ HS5.out (fun _ => ?_)
    clear hK K
  case' refine_2 =>
    go_simp
    refine hK.out _ _ HS5.out (fun _ => ?_)
    clear hK K
    try simp only [Act.put, List.setIfInBounds_toArray, List.set_cons_zero, List.set_cons_succ]
    refine wpAnyH_ready (rs := [3]) (by kernel_rfl) (by simp) ?_
    refine AllReadyH.cons rfl (fun K hK => ?_) AllReadyH.nil
    go_simp
    go_at_call 31
    refine (HCL.out _).mono ?_
    rintro e w7 ⟨rfl, rfl⟩
    go_wp2_with fail
    refine hK.out _ _ HS5.out (fun _ => ?_)
    clear hK K
  all_goals
    try simp only [Act.put, List.setIfInBounds_toArray, List.set_cons_zero, List.set_cons_succ]
    refine wpAnyH_ready (rs := [6]) (by kernel_rfl) (by simp) ?_
    refine AllReadyH.cons rfl (fun K hK => ?_) AllReadyH.nil
    refine step_append_clip rfl (.tmp 51) (.tmp 53) rfl A n W3.heap.size R (t, ⟨Av, nv, cv⟩) rfl rfl (HRN.out.gr HS5.out.2) HN5.out (by have := HNF.out; omega) ?_
    intro A7 c7 w7 hown7 hg7
    have hS7 : XFix w7 (w.heap.size + 1) 0 t (.slice Av nv cv) ∧ Gr w w7 := ⟨HS5.out.1.gr hg7, HS5.out.2.trans hg7⟩
    have hgw7 : Gr W w7 := (HG3.out.alloc _).trans hg7
    have hb7 := HL.out.gr hgw7
    have li7 := hb7.at h8
    have f7 : w7.frozen? ⟨w.heap.size, t.origin.toNat, none⟩ = false := unfrozen_of_block hb7.box _
    rw [← HTI.out] at li7
    have hb8 := hb7.set (k := t.origin.toNat) (by rw [HTI.out]; exact h8) A7 (n + 1) c7
    have hz8 : LBox (w7.setCell ⟨w.heap.size, t.origin.toNat, none⟩ (.slice A7 (n + 1) c7)) (w.heap.size + 1 + 1) Z3 := (HZ.out.gr hgw7).far (by simp only []; omega) _
    have hg8 : Gr w (w7.setCell ⟨w.heap.size, t.origin.toNat, none⟩ (.slice A7 (n + 1) c7)) := hS7.2.setCell (Nat.le_refl _) _
    have hx8 : XFix (w7.setCell ⟨w.heap.size, t.origin.toNat, none⟩ (.slice A7 (n + 1) c7)) (w.heap.size + 1) 0 t (.slice Av nv cv) := hS7.1.far (by simp) _
    have hlt8 : w.heap.size < (W3.alloc (.cells (tcs t (.slice Av nv cv)) 38)).heap.size := by
      have := (Array.getElem?_eq_some_iff.1 (HL.out.gr (HG3.out.alloc (.cells (tcs t (.slice Av nv cv)) 38))).box).1
      exact this
    have ho8 := ownsRow_setCell_below hown7 (a := ⟨w.heap.size, t.origin.toNat, none⟩) hlt8 (.slice A7 (n + 1) c7)
    have HO8 := Lib.hid ho8
    clear ho8
    refine hK.out _ _ hS7 (fun _ => ?_)
    clear hK K
    try simp only [Act.put, List.setIfInBounds_toArray, List.set_cons_zero, List.set_cons_succ]
    refine wpAnyH_ready (rs := [7]) (by kernel_rfl) (by simp) ?_
    refine AllReadyH.cons rfl (fun K hK => ?_) AllReadyH.nil
    go_simp
    refine hK.out _ _ hS7 (fun _ => ?_)
    clear hK K
    try simp only [Act.put, List.setIfInBounds_toArray, List.set_cons_zero, List.set_cons_succ]
    refine wpAnyH_ready (rs := [8]) (by kernel_rfl) (by simp) ?_
    refine AllReadyH.cons rfl (fun K hK => ?_) AllReadyH.nil
    go_simp
    refine hK.out _ _ ⟨hx8, hg8⟩ (fun _ => ?_)
    clear hK K
    refine wpAnyH_done (by kernel_rfl) ?_ _
    obtain ⟨u2, hu2⟩ : ∃ f, f = updS u t.origin.toNat ⟨A7, n + 1, c7⟩ := ⟨_, rfl⟩
    rw [← hu2] at hb8
    obtain ⟨w8, hw8⟩ : ∃ x, x = w7.setCell ⟨w.heap.size, t.origin.toNat, none⟩ (.slice A7 (n + 1) c7) := ⟨_, rfl⟩
    rw [← hw8] at hb8 hz8 hg8 HO8 ⊢
    have hlv8 : LV w8 u2 (addL l i t) := fun j hj => by
      unfold addL
      by_cases e : j = i
      · rw [if_pos e, e]
        have e2 : u2 i = ⟨A7, n + 1, c7⟩ := by rw [hu2]; exact if_pos HTI.out.symm
        rw [e2]
        have hto : TOs w8 (R ++ [(t, ⟨Av, nv, cv⟩)]) := fun r hr => by
          rcases List.mem_append.1 hr with hr | hr
          · exact (HRO.out r hr).gr hg8
          · simp only [List.mem_singleton] at hr
            subst hr
            exact HTW.out.gr hg8
        have hlen : (R ++ [((t, ⟨Av, nv, cv⟩) : TR)]).length = n + 1 := by simp [HRL.out]
        have h := xv_of_sl (R := R ++ [(t, ⟨Av, nv, cv⟩)]) (by rw [hlen]; exact own_sl HO8.out) hto
        have e3 : texts (R ++ [(t, ⟨Av, nv, cv⟩)]) = l i ++ [t] := by unfold texts; rw [List.map_append, show R.map (·.1) = l i from HRT.out]; rfl
        rw [e3] at h
        exact h
      · rw [if_neg e]
        have e2 : u2 j = u j := by rw [hu2]; exact if_neg (by rw [HTI.out]; exact e)
        rw [e2]
        exact (HLW.out j hj).gr hg8
    have HCPY := Lib.hid (ccopy_any u2 (addL l i t) w8 hlv8 (fitC_add HFC.out (by rw [← HUN.out]; exact HNF.out) HT.out))
    have HB8 := Lib.hid hb8
    have HZ8 := Lib.hid hz8
    have HG8 := Lib.hid hg8
    obtain ⟨l0, l1, l2, l3, l4, l5, l6, l7⟩ := hb8.all
    clear hS7 hgw7 hb7 li7 f7 hb8 hz8 hg8 hx8 hlt8 hu2 hw8 hlv8 hg7 hown7
    go_wp2_with fail
    refine HCPY.out.mono ?_
    rintro e w9 ⟨u9, rfl, hln9, g9⟩
    have HLN9 := Lib.hid hln9
    have HG9 := Lib.hid g9
    obtain ⟨s0, s1, s2, s3, s4, s5, s6, s7⟩ := (HZ8.out.gr g9).zero
    have hzb := (HZ8.out.gr g9).box
    have f0 := unfrozen_of_block hzb 0
    have f1 := unfrozen_of_block hzb 1
    have f2 := unfrozen_of_block hzb 2
    have f3 := unfrozen_of_block hzb 3
    have f4 := unfrozen_of_block hzb 4
    have f5 := unfrozen_of_block hzb 5
    have f6 := unfrozen_of_block hzb 6
    have f7 := unfrozen_of_block hzb 7
    have HZL := Lib.hid (Array.getElem?_eq_some_iff.1 HZ8.out.box).1
    clear hzb g9 hln9 l0 l1 l2 l3 l4 l5 l6 l7
    go_wp2_with fail
    refine bodyPost_ret (v := .tuple #[.agg (lcells u9), .int .i64 0]) (by simp [results, Try.results22, go_sem, *]) rfl ⟨u9, by rw [HF.out]; rfl, ?_, ?_⟩
    · rw [HF.out]
      show LN (putCells w9 (w.heap.size + 1 + 1) 0 [.slice (u9 0).a (u9 0).n (u9 0).c, .slice (u9 1).a (u9 1).n (u9 1).c, .slice (u9 2).a (u9 2).n (u9 2).c, .slice (u9 3).a (u9 3).n (u9 3).c, .slice (u9 4).a (u9 4).n (u9 4).c, .slice (u9 5).a (u9 5).n (u9 5).c, .slice (u9 6).a (u9 6).n (u9 6).c, .slice (u9 7).a (u9 7).n (u9 7).c]) w.heap.size u9 (addL l i t)
      exact copied_ln HLN9.out HZL.out HG8.out.size _ _
    · show Gr w (putCells w9 (w.heap.size + 1 + 1) 0 [.slice (u9 0).a (u9 0).n (u9 0).c, .slice (u9 1).a (u9 1).n (u9 1).c, .slice (u9 2).a (u9 2).n (u9 2).c, .slice (u9 3).a (u9 3).n (u9 3).c, .slice (u9 4).a (u9 4).n (u9 4).c, .slice (u9 5).a (u9 5).n (u9 5).c, .slice (u9 6).a (u9 6).n (u9 6).c, .slice (u9 7).a (u9 7).n (u9 7).c])
      exact Gr.putCells (by omega) _ _ (HG8.out.trans HG9.out)
end Go.Proofs.Ytjpiemgpbakfaaa
