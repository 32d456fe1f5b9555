/- Walk: value.Into of the program. Walk: done, the state behind a deed (Counter, Bound). Written by wip/tools/genfol.py. -/
import Derived.Test.YtlihcjlonafohaaGreatZf26
import Derived.Test.YtlihcjlonafohaaGreatZf27
import Derived.Test.YtlihcjlonafohaaGreatZf13
import Derived.Test.YtlihcjlonafohaaGreatZf29
namespace Go.Proofs.YtlihcjlonafohaaGreat
open Go.RowKit Go.Joins
set_option linter.unusedSimpArgs false
set_option linter.unusedVariables false

def geS (s x : ByteArray) : Bool := !lessS x s
theorem plcS_find (s : ByteArray) : ∀ L : List ByteArray, L.findIdx (geS s) = plcS s L
  | [] => rfl
  | a :: r => by
    have ih := plcS_find s r
    rw [List.findIdx_cons, ih]
    show (bif geS s a then 0 else plcS s r + 1) = if lessS a s = true then plcS s r + 1 else 0
    unfold geS
    cases lessS a s <;> rfl
theorem insertIdx_cut {α : Type} (M : List α) (i : Nat) (p : α) (h : i ≤ M.length) : M.insertIdx i p = M.take i ++ p :: M.drop i := by
  induction M generalizing i with
  | nil => obtain rfl : i = 0 := by simpa using h
           rfl
  | cons a M ih =>
    cases i with
    | zero => rfl
    | succ i => rw [List.insertIdx_succ_cons, ih i (by simpa using h)]; rfl
set_option maxRecDepth 100000 in
theorem into1_any (b : Nat) (s x : ByteArray) (w : World) (h : w.cell? ⟨b, 0, none⟩ = some (.string s)) : Calls Tryz.prog 144 #[.string x, .pointer (some ⟨b, 0, none⟩)] w fun e w' => e = .returned (.bool (geS s x)) ∧ Gr w w' := by
  obtain ⟨r, hr⟩ : ∃ r, r = lessS x s := ⟨_, rfl⟩
  have hl : Go.Op.bytesLess x.toList s.toList = r := hr.symm
  have HE : Hid (geS s x = !r) := Lib.hid (by rw [hr]; rfl)
  clear hr
  cases r with
  | false =>
    go_enter Tryz.func144, Tryz.ntmps144
    go_wp2_with fail
    go_ret
    exact ⟨by rw [HE.out]; rfl, Gr.refl _⟩
  | true =>
    go_enter Tryz.func144, Tryz.ntmps144
    go_wp2_with fail
    go_ret
    exact ⟨by rw [HE.out]; rfl, Gr.refl _⟩
set_option maxRecDepth 100000 in
set_option maxHeartbeats 4000000 in
theorem into_any (v : Value) (E : List ByteArray) (s : ByteArray) (w : World) (hv : SV w v E) (hlen : E.length ≤ 1000000) (hsz : ∀ x ∈ E, x.size ≤ 281474976710656) (hss : s.size ≤ 281474976710656) :
    Calls Tryz.prog 95 #[v, .string s] w fun e w' => RetStrsV (intoT s E) w e w' := by
  obtain ⟨W, hW, hg, hb⟩ : ∃ W, W = w.alloc (.cells #[.string s] 9) ∧ Gr w W ∧ W.heap[w.heap.size]? = some (.cells #[.string s] 9 (0, 0)) := ⟨_, rfl, (Gr.refl _).alloc _, heap_alloc _ _ _⟩
  obtain ⟨b, hbb⟩ : ∃ b, b = w.heap.size := ⟨_, rfl⟩
  rw [← hbb] at hb
  have HBW : Hid (w.heap.size ≤ W.heap.size ∧ w.heap.size ≤ b ∧ b < W.heap.size) := Lib.hid ⟨hg.size, by omega, (Array.getElem?_eq_some_iff.1 hb).1⟩
  have hbc : W.cell? ⟨b, 0, none⟩ = some (.string s) := by rw [cell_of_block hb]; rfl
  have HBC := Lib.hid hbc
  have HG := Lib.hid hg
  have HCP := Lib.hid (copiesV_any v E W (hv.gr hg) hlen hsz)
  have HVV := Lib.hid (hv.gr hg)
  have HCL := Lib.hid (fun w1 => clone_any s hss w1)
  have HLEN := Lib.hid hlen
  have heg : ∀ args w, (callFunc 144 args).run Tryz.prog w = .ok (.enter 144 args) w := fun args w => by kernel_rfl
  have HIX := Lib.hid (fun w1 (g1 : Gr W w1) => indexS_any v E 144 b (b + 1) (geS s) (fun w => w.cell? ⟨b, 0, none⟩ = some (.string s)) w1 (HVV.out.gr g1)
    ⟨fun w w' g h k hk => k.cell h (fun e => by have := Option.some.inj e; simp only at this; omega), fun w w' h g => g.cell h, fun x _ w h => into1_any b s x w h, heg⟩ (g1.cell HBC.out))
  obtain ⟨A, c, hvf, hnc, ⟨hcm, -⟩, hat⟩ := hv
  subst hvf
  have HAT : Hid (∀ j (hj : j < E.length), ∃ b off, A = some ⟨b, off, none⟩ ∧ w.cell? ⟨b, off + j, none⟩ = some (.string E[j])) := Lib.hid hat
  have hc63 : c ≤ 9223372036854775807 := by unfold maxLen at hcm; omega
  obtain ⟨n, hn⟩ : ∃ n, n = E.length := ⟨_, rfl⟩
  rw [← hn] at HCP HIX hnc hlen ⊢
  have HN := Lib.hid hn
  clear hn hat hcm hg hb hbc hsz hss heg
  go_enter Tryz.func95, Tryz.ntmps95
  go_upto_region 1 with (fail)
  rw [← hW, ← hbb]
  clear hW hbb
  go_wp2_with fail
  refine HCP.out.mono ?_
  rintro e w1 ⟨v1, rfl, ho1, g1⟩
  have HO1 : Hid (SO w1 w.heap.size v1 E) := Lib.hid (ho1.le HBW.out.1)
  have HG1 := Lib.hid g1
  obtain ⟨A1, c1, hv1, -, -⟩ := own_form ho1
  rw [← HN.out] at hv1
  subst hv1
  clear ho1 g1
  go_wp2_with fail
  refine (HIX.out w1 HG1.out).mono ?_
  rintro e w2 ⟨rfl, g2⟩
  have HG2 := Lib.hid (HG1.out.trans g2)
  have HO2 : Hid (SO w2 w.heap.size (.slice A1 n c1) E) := Lib.hid (HO1.out.gr g2)
  have hbc2 := HG2.out.cell HBC.out
  clear g2
  by_cases hf : plcS s E < E.length
  case neg =>
    have hi : pcsI (geS s) E = -1 := by unfold pcsI; rw [plcS_find, if_neg hf]
    rw [hi]
    have HT : Hid (intoT s E = E ++ [s]) := Lib.hid (by
      have e : plcS s E = E.length := Nat.le_antisymm (plcS_le s E) (Nat.le_of_not_lt hf)
      unfold intoT
      rw [e, List.getElem?_eq_none (Nat.le_refl _), if_neg (by simp), List.take_length, List.drop_length])
    clear hi hf
    go_wp2_with fail
    refine (HCL.out _).mono ?_
    rintro e w3 ⟨rfl, g3⟩
    have HG3 := Lib.hid (HG.out.trans (HG2.out.trans g3))
    have HO3 : Hid (SO w3 w.heap.size (.slice A1 n c1) E) := Lib.hid (HO2.out.gr g3)
    obtain ⟨W4, hW4, g4, hs4⟩ : ∃ W, W = w3.alloc (.cells #[.string s] 9) ∧ Gr w3 W ∧ SV W (.slice (some ⟨w3.heap.size, 0, none⟩) 1 1) [s] := ⟨_, rfl, (Gr.refl _).alloc _, sv_one w3 s⟩
    have HS4 := Lib.hid hs4
    have HO4 : Hid (SO W4 w.heap.size (.slice A1 n c1) E) := Lib.hid (HO3.out.gr g4)
    have HG4 : Hid (Gr w W4) := Lib.hid (HG3.out.trans g4)
    have hz : (n + 1) * 16 ≤ 140737488355328 := by omega
    rw [hW4] at HS4 HO4 HG4
    clear g3 hs4 g4 hW4 hbc2
    go_wp2_with (at_builtin; refine wpList_push_n (w0 := w) rfl (.tmp 14) (.tmp 17) rfl (.slice A1 n c1) (.slice (some ⟨w3.heap.size, 0, none⟩) 1 1) E [s] n 1 HN.out rfl rfl HO4.out rfl HS4.out hz HG4.out ?_)
    intro A' c' w5 hown g5
    have HO := Lib.hid hown
    have HG5 := Lib.hid g5
    clear hown g5
    go_wp2
    go_ret
    exact ⟨_, rfl, by rw [HT.out]; exact HO.out, HG5.out⟩
  have hi : pcsI (geS s) E = ((plcS s E : Nat) : Int) := by unfold pcsI; rw [plcS_find, if_pos hf]
  rw [hi]
  obtain ⟨j, hj⟩ : ∃ j, j = plcS s E := ⟨_, rfl⟩
  rw [← hj] at hf
  rw [← hj]
  have HJ := Lib.hid hj
  have hj0 : (0 : Int) ≤ (j : Int) := Int.natCast_nonneg _
  have hjn : ¬ (j : Int) < 0 := by omega
  have hj1 : (j : Int) < (n : Int) := by have := HN.out; omega
  obtain ⟨bb, off, hA, q0⟩ := HAT.out j hf
  subst hA
  have q1 := HG2.out.cell (HG.out.cell q0)
  obtain ⟨x, hx⟩ : ∃ x, x = E[j] := ⟨_, rfl⟩
  rw [← hx] at q1
  have HQ : Hid (w2.cell? ⟨bb, off + j, none⟩ = some (.string x) ∧ w2.cell? ⟨b, 0, none⟩ = some (.string s) ∧ Gr w2 w2) := Lib.hid ⟨q1, hbc2, Gr.refl _⟩
  clear hi hj q0 q1 hbc2
  rcases hq : eqS x s with _ | _
  · have ht : (x.toList == s.toList) = false := hq
    have HT : Hid (intoT s E = E.insertIdx j s) := Lib.hid (by
      rw [insertIdx_cut E j s (Nat.le_of_lt hf)]
      unfold intoT
      rw [← HJ.out, List.getElem?_eq_getElem hf, ← hx, if_neg]
      intro e
      have := Option.some.inj e
      rw [this, eqS_self] at hq
      cases hq)
    have hfl : j ≤ E.length := Nat.le_of_lt hf
    clear hq hx
    go_upto_region 5 with (fail)
    refine qRegion (fun w' => w'.cell? ⟨bb, off + j, none⟩ = some (.string x) ∧ w'.cell? ⟨b, 0, none⟩ = some (.string s) ∧ Gr w2 w') (by kernel_rfl) (by kernel_rfl) ⟨(Gr.refl _).drew.cell HQ.out.1, (Gr.refl _).drew.cell HQ.out.2.1, (Gr.refl _).drew⟩ ?_
    iterate 6
      refine qTake (by kernel_rfl) ?_
      apply Exists.intro
      refine ⟨fun wq hq => ?_, ?_⟩
      · go_light
        obtain ⟨e0, e1, -⟩ := hq
        go_simp
        try with_reducible rfl
        done
      try simp only [Act.put, List.setIfInBounds_toArray, List.set_cons_zero, List.set_cons_succ]
    refine qNil ?_
    intro w3 hC
    have hbc3 := hC.2.1
    have HG3 := Lib.hid hC.2.2
    clear hC
    go_wp2_with fail
    refine (HCL.out _).mono ?_
    rintro e w4 ⟨rfl, g4⟩
    have HG4 := Lib.hid ((HG.out.trans HG2.out).trans (HG3.out.trans g4))
    obtain ⟨W5, hW5⟩ : ∃ W, W = w4.alloc (.cells #[.string s] 9) := ⟨_, rfl⟩
    have g5 : Gr w4 W5 := by rw [hW5]; exact (Gr.refl _).alloc _
    have hone : W5.ownsRow w4.heap.size 9 1 (.slice (some ⟨w4.heap.size, 0, none⟩) 1 1) 1 (scell s) := by
      rw [hW5]
      exact ⟨scell_len s, .inr ⟨w4.heap.size, 1, #[.string s], rfl, Nat.le_refl _, heap_alloc _ _ _, Nat.le_refl _, by unfold maxLen; omega, rfl, rfl⟩⟩
    have ho5 : SO W5 w.heap.size (.slice A1 n c1) E := ((HO2.out.gr HG3.out).gr g4).gr g5
    have hgw5 : Gr w W5 := HG4.out.trans g5
    have hne : Value.ownBlock (.slice A1 n c1) ≠ some w4.heap.size := fun e => by have := (World.ownsRow.lt ((HO2.out.gr HG3.out).gr g4) w4.heap.size e).2; omega
    have HIN := Lib.hid (insert_anyS (.slice A1 n c1) E w.heap.size j w4.heap.size w4.heap.size s W5 ho5 hgw5.size hfl (by have := HLEN.out; omega) hne hone)
    have fin : ∀ e w', RetInsS E w.heap.size j s (.slice A1 n c1) W5 e w' → RetStrsV (intoT s E) w e w' := fun e w' ⟨v', h1, h2, h3, h4⟩ =>
      ⟨v', h1, by rw [HT.out]; exact h2, Below.trans hgw5 (h4.below hgw5.size (fun g hg => (World.ownsRow.lt ho5 g hg).1))⟩
    have FIN := Lib.hid fin
    rw [hW5] at HIN
    clear g4 g5 hone ho5 hgw5 hne fin hbc3
    go_wp2_with fail
    refine HIN.out.mono ?_
    rintro e w6 hh
    rw [← hW5] at hh
    obtain ⟨v', rfl, h2⟩ := hh
    have HH := Lib.hid h2
    clear h2
    go_wp2_with fail
    go_ret
    exact FIN.out _ _ ⟨v', rfl, HH.out⟩
  · have ht : (x.toList == s.toList) = true := hq
    have HT : Hid (intoT s E = E) := Lib.hid (by
      unfold intoT
      rw [← HJ.out, List.getElem?_eq_getElem hf, ← hx, eqS_iff.1 hq, if_pos rfl])
    clear hq hx
    go_upto_region 5 with (fail)
    refine qRegion (fun w' => w'.cell? ⟨bb, off + j, none⟩ = some (.string x) ∧ w'.cell? ⟨b, 0, none⟩ = some (.string s) ∧ Gr w2 w') (by kernel_rfl) (by kernel_rfl) ⟨(Gr.refl _).drew.cell HQ.out.1, (Gr.refl _).drew.cell HQ.out.2.1, (Gr.refl _).drew⟩ ?_
    iterate 6
      refine qTake (by kernel_rfl) ?_
      apply Exists.intro
      refine ⟨fun wq hq => ?_, ?_⟩
      · go_light
        obtain ⟨e0, e1, -⟩ := hq
        go_simp
        try with_reducible rfl
        done
      try simp only [Act.put, List.setIfInBounds_toArray, List.set_cons_zero, List.set_cons_succ]
    refine qNil ?_
    intro w3 hC
    have HG3 := Lib.hid hC.2.2
    clear hC
    go_wp2_with fail
    go_ret
    exact ⟨_, rfl, by rw [HT.out]; exact HO2.out.gr HG3.out, (HG.out.trans HG2.out).trans HG3.out⟩
end Go.Proofs.YtlihcjlonafohaaGreat
namespace Go.Proofs.YtlihcjlonafohaaGreat
open Go.RowKit Go.Joins
set_option linter.unusedSimpArgs false
set_option linter.unusedVariables false

/-- What a deed makes of a state. -/
def doneS (t : TX) (o : TO) (g : TG) (s : FS) : FS :=
  if s.k = 1 ∨ s.k = 2 then { s with n := cntZ o s.n }
  else if s.k = 3 ∨ s.k = 8 then { s with live := mrkL t o g 4 5 s.live }
  else if s.k = 4 then { s with ever := if o.kind = 4 then intoT o.elem s.ever else s.ever, live := mrkL t o g 5 4 s.live }
  else if s.k = 5 then (if o.kind = 6 ∧ latB t g s.has s.st s.top = true then { s with has := true, st := t.stamp, top := g } else s)
  else if s.k = 6 then { s with live := mrkL t o g 6 6 s.live }
  else if s.k = 7 then { s with df := s.df && !decide (o.kind = 8), live := mrkL t o g 7 8 s.live }
  else s
/-- The call's answer: this state, its lists the caller's own. -/
def RetD (w0 : World) (s : FS) (e : Ending) (w' : World) : Prop := ∃ v, e = .returned v ∧ FV w' w0.heap.size v s ∧ Gr w0 w'
structure FitD (E : List ByteArray) (L : List TG) (o : TO) : Prop where
  live : (L.length + 1) * 40 ≤ 140737488355328
  ever : E.length ≤ 1000000
  sz : ∀ s ∈ E, s.size ≤ 281474976710656
  oe : o.elem.size ≤ 281474976710656
open Go.RowKit in
theorem wpList_load_rowG {ops : Array Oper} {rest : List Oper} {o : Oper} {a : Act} {w : World} {Q : Exit → Act → World → Prop} (hw : Region.wanted o (yielded ops a.tmps) = true) (ty : TypeId) (x : Operand) (ho : o.op = .load ty x)
    (g : Nat) (hx : a.eval x = .pointer (some ⟨g, 0, none⟩)) (t : TypeId) (cs : Array Value) (fr : Nat × Nat) (fs : Array Field) (hg : w.heap[g]? = some (.cells cs t fr))
    (hu : Tryz.prog.underlying ty = some (.struct fs)) (hi : (Tryz.prog.info? ty).map (·.size) = some cs.size)
    (h : wpList Tryz.prog ops Q rest (a.put o.dst (.agg cs)) w) : wpList Tryz.prog ops Q (o :: rest) a w :=
  Go.BigFrame.wpList_want hw fun _ hK => wp_load_row ty x ho g hx t cs fr (.struct fs) hg hu rfl hi (hK _ _ h)
theorem kp_setRow (w : World) (g : Nat) (cs : Array Value) : Kp (some g) w (w.setRow g cs) :=
  ⟨rfl, rfl, rfl, by simp [World.setRow], fun k hk hne => setRow_other w g k cs (fun e => hne (by rw [e]))⟩
theorem fin_rows {w0 w : World} {R : Nat} {z : Array Value} {ve vl : Value} {E : List ByteArray} {L : List TG} (out : Array Value) (hz : w.heap[R]? = some (.cells z 39 (0, 0))) (hg : Gr w0 w) (hR : w0.heap.size ≤ R) (he : SO w w0.heap.size ve E) (hl : GOw w w0.heap.size vl L) :
    SO (w.setRow R out) w0.heap.size ve E ∧ GOw (w.setRow R out) w0.heap.size vl L ∧ Gr w0 (w.setRow R out) :=
  ⟨World.ownsRow.kept he (kp_setRow w R out) (.inr (own_ne_obj he hz (by decide))), World.ownsRow.kept hl (kp_setRow w R out) (.inr (own_ne_obj hl hz (by decide))), below_setRow hg hR out⟩
set_option maxRecDepth 100000 in
set_option maxHeartbeats 4000000 in
theorem done1_any (t : TX) (A : Option Addr) (n c : Nat) (o : TO) (g : TG) (m : Int) (A1 A2 : Option Addr) (n1 c1 n2 c2 : Nat) (E : List ByteArray) (L : List TG) (has : Bool) (st : Nat) (top : TG) (df : Bool) (w0 w : World) (h0 : Gr w0 w) (he : SO w w0.heap.size (.slice A1 n1 c1) E) (hl : GOw w w0.heap.size (.slice A2 n2 c2) L) (hft : FitD E L o) :
    Calls Tryz.prog 48 #[.agg (decs t (.slice A n c) o g), .agg (fsc 1 m (.slice A1 n1 c1) (.slice A2 n2 c2) has st top df)] w fun e w' => RetD w0 ⟨1, cntZ o m, E, L, has, st, top, df⟩ e w' := by
  obtain ⟨W1, hW1, hg1, hb1⟩ := fdbox w t (.slice A n c) o g
  obtain ⟨W2, hW2, hg2, hs2⟩ : ∃ W, W = W1.alloc (.cells (fsc 1 m (.slice A1 n1 c1) (.slice A2 n2 c2) has st top df) 39) ∧ Gr W1 W ∧ W.heap[W1.heap.size]? = some (.cells (fsc 1 m (.slice A1 n1 c1) (.slice A2 n2 c2) has st top df) 39 (0, 0)) := ⟨_, rfl, (Gr.refl _).alloc _, heap_alloc _ _ _⟩
  obtain ⟨W, hW, hg3, hz⟩ : ∃ W, W = W2.alloc (.cells (fsc 0 0 (.slice none 0 0) (.slice none 0 0) false 0 tg0 false) 39) ∧ Gr W2 W ∧ W.heap[W2.heap.size]? = some (.cells (fsc 0 0 (.slice none 0 0) (.slice none 0 0) false 0 tg0 false) 39 (0, 0)) := ⟨_, rfl, (Gr.refl _).alloc _, heap_alloc _ _ _⟩
  have e1 : W1.heap.size = w.heap.size + 1 := by rw [hW1]; simp
  have e2 : W2.heap.size = w.heap.size + 1 + 1 := by rw [hW2]; simp [e1]
  obtain ⟨D, hD⟩ : ∃ S, S = w.heap.size := ⟨_, rfl⟩
  obtain ⟨S, hS⟩ : ∃ S, S = w.heap.size + 1 := ⟨_, rfl⟩
  obtain ⟨R, hR⟩ : ∃ S, S = w.heap.size + 1 + 1 := ⟨_, rfl⟩
  rw [← hD] at hb1
  rw [e1, ← hS] at hs2
  rw [e2, ← hR] at hz
  have hb : DBox W D t (.slice A n c) o g := (hb1.gr hg2).gr hg3
  have hs := gr_obj hg3 hs2
  have hgw : Gr w W := (hg1.trans hg2).trans hg3
  have HG0 := Lib.hid (h0.trans hgw)
  have HE := Lib.hid (he.gr hgw)
  have HL := Lib.hid (hl.gr hgw)
  have HB0 : Hid (w0.heap.size ≤ W.heap.size ∧ w0.heap.size ≤ S ∧ w0.heap.size ≤ R ∧ R ≠ S) := Lib.hid (by
    have h1 := h0.size; have h2 := hgw.size
    exact ⟨by omega, by omega, by omega, by omega⟩)
  have HFT := Lib.hid hft
  have k0 : W.cell? ⟨S, 0, none⟩ = some (.int .i64 1) := by rw [cell_of_block hs]; rfl
  have hld : W.heap[D]? = some (.cells (decs t (.slice A n c) o g) 94 (0, 0)) := hb
  have HB := Lib.hid hb
  have HS := Lib.hid hs
  have HZ := Lib.hid hz
  rw [hW1] at hW2
  rw [hW2] at hW
  clear hg1 hg2 hg3 hb1 hs2 e1 e2 hW1 hW2 hb hs hz hgw h0 he hl hft
  have HCN := Lib.hid (fun w1 => counted_any t (.slice A n c) o g m w1)
  have v1 : W.cell? ⟨S, 1, none⟩ = some (.int .i64 m) := by rw [cell_of_block HS.out]; rfl
  go_enter Tryz.func48, Tryz.ntmps48
  go_upto_region 1 with (fail)
  change Code.wp Tryz.prog _ _ _ (((w.alloc (.cells (decs t (.slice A n c) o g) 94)).alloc (.cells (fsc 1 m (.slice A1 n1 c1) (.slice A2 n2 c2) has st top df) 39)).alloc (.cells (fsc 0 0 (.slice none 0 0) (.slice none 0 0) false 0 tg0 false) 39))
  rw [← hW, ← hR, ← hS, ← hD]
  clear hW hR hS hD
  go_wp2_with ((refine wpList_load_row rfl 94 (.tmp 2) rfl D rfl 94 (decs t (.slice A n c) o g) (0, 0) _ hld Tryz.underlying94 rfl dinfo ?_))
  refine (HCN.out _).mono ?_
  rintro e w2 ⟨rfl, g2⟩
  have hs2 := gr_obj g2 HS.out
  have q1 : w2.cell? ⟨S, 1, none⟩ = some (.int .i64 m) := by rw [cell_of_block hs2]; rfl
  have f1 := unfrozen_of_block hs2 1
  have HG2 := Lib.hid g2
  have HS2 := Lib.hid hs2
  clear v1 hld k0 g2 hs2
  go_upto_region 20 with (fail)
  obtain ⟨W4, hW4⟩ : ∃ X, X = w2.setCell ⟨S, 1, none⟩ (.int .i64 (cntZ o m)) := ⟨_, rfl⟩
  have hs4 : W4.heap[S]? = some (.cells (fsc 1 (cntZ o m) (.slice A1 n1 c1) (.slice A2 n2 c2) has st top df) 39 (0, 0)) := by rw [hW4]; exact set_obj (i := 1) HS2.out _
  have hz4 : W4.heap[R]? = some (.cells (fsc 0 0 (.slice none 0 0) (.slice none 0 0) false 0 tg0 false) 39 (0, 0)) := by rw [hW4]; exact set_obj_other (gr_obj HG2.out HZ.out) HB0.out.2.2.2 _
  have he4 : SO W4 w0.heap.size (.slice A1 n1 c1) E := by rw [hW4]; exact own_set_obj (HE.out.gr HG2.out) HS2.out (by decide) _
  have hl4 : GOw W4 w0.heap.size (.slice A2 n2 c2) L := by rw [hW4]; exact own_set_obj (HL.out.gr HG2.out) HS2.out (by decide) _
  have hg4 : Gr w0 W4 := by rw [hW4]; exact (HG0.out.trans HG2.out).setCell HB0.out.2.1 _
  rw [← hW4]
  clear hW4 q1 f1
  have HEW := Lib.hid (he4)
  have HLW := Lib.hid (hl4)
  have HGW := Lib.hid (hg4)
  go_wp2_with (first | (refine wpList_load_row rfl 39 (.tmp 3) rfl S rfl 39 (fsc 1 (cntZ o m) (.slice A1 n1 c1) (.slice A2 n2 c2) has st top df) (0, 0) _ hs4 Tryz.underlying39 rfl sinfo ?_) | (refine wpList_store_row rfl 39 (.tmp 4) (.tmp 83) rfl R (fsc 1 (cntZ o m) (.slice A1 n1 c1) (.slice A2 n2 c2) has st top df) rfl rfl 39 _ hz4 sinfo rfl (fsc_ones _ _ _ _ _ _ _ _ _ _ _ _) ?_))
  have HZF := Lib.hid (setRow_heap W4 R _ (fsc 1 (cntZ o m) (.slice A1 n1 c1) (.slice A2 n2 c2) has st top df) 39 _ hz4)
  have HF := Lib.hid (fin_rows ((fsc 1 (cntZ o m) (.slice A1 n1 c1) (.slice A2 n2 c2) has st top df)) hz4 HGW.out HB0.out.2.2.1 HEW.out HLW.out)
  clear hs4 hz4
  go_wp2_with fail
  exact bodyPost_ret (results_cell_row Tryz.results48 _ _ R 39 (fsc 1 (cntZ o m) (.slice A1 n1 c1) (.slice A2 n2 c2) has st top df) (0, 0) _ rfl HZF.out Tryz.underlying39 rfl sinfo) rfl ⟨_, rfl, ⟨_, _, rfl, HF.out.1, HF.out.2.1⟩, HF.out.2.2⟩
set_option maxRecDepth 100000 in
set_option maxHeartbeats 4000000 in
theorem done2_any (t : TX) (A : Option Addr) (n c : Nat) (o : TO) (g : TG) (m : Int) (A1 A2 : Option Addr) (n1 c1 n2 c2 : Nat) (E : List ByteArray) (L : List TG) (has : Bool) (st : Nat) (top : TG) (df : Bool) (w0 w : World) (h0 : Gr w0 w) (he : SO w w0.heap.size (.slice A1 n1 c1) E) (hl : GOw w w0.heap.size (.slice A2 n2 c2) L) (hft : FitD E L o) :
    Calls Tryz.prog 48 #[.agg (decs t (.slice A n c) o g), .agg (fsc 2 m (.slice A1 n1 c1) (.slice A2 n2 c2) has st top df)] w fun e w' => RetD w0 ⟨2, cntZ o m, E, L, has, st, top, df⟩ e w' := by
  obtain ⟨W1, hW1, hg1, hb1⟩ := fdbox w t (.slice A n c) o g
  obtain ⟨W2, hW2, hg2, hs2⟩ : ∃ W, W = W1.alloc (.cells (fsc 2 m (.slice A1 n1 c1) (.slice A2 n2 c2) has st top df) 39) ∧ Gr W1 W ∧ W.heap[W1.heap.size]? = some (.cells (fsc 2 m (.slice A1 n1 c1) (.slice A2 n2 c2) has st top df) 39 (0, 0)) := ⟨_, rfl, (Gr.refl _).alloc _, heap_alloc _ _ _⟩
  obtain ⟨W, hW, hg3, hz⟩ : ∃ W, W = W2.alloc (.cells (fsc 0 0 (.slice none 0 0) (.slice none 0 0) false 0 tg0 false) 39) ∧ Gr W2 W ∧ W.heap[W2.heap.size]? = some (.cells (fsc 0 0 (.slice none 0 0) (.slice none 0 0) false 0 tg0 false) 39 (0, 0)) := ⟨_, rfl, (Gr.refl _).alloc _, heap_alloc _ _ _⟩
  have e1 : W1.heap.size = w.heap.size + 1 := by rw [hW1]; simp
  have e2 : W2.heap.size = w.heap.size + 1 + 1 := by rw [hW2]; simp [e1]
  obtain ⟨D, hD⟩ : ∃ S, S = w.heap.size := ⟨_, rfl⟩
  obtain ⟨S, hS⟩ : ∃ S, S = w.heap.size + 1 := ⟨_, rfl⟩
  obtain ⟨R, hR⟩ : ∃ S, S = w.heap.size + 1 + 1 := ⟨_, rfl⟩
  rw [← hD] at hb1
  rw [e1, ← hS] at hs2
  rw [e2, ← hR] at hz
  have hb : DBox W D t (.slice A n c) o g := (hb1.gr hg2).gr hg3
  have hs := gr_obj hg3 hs2
  have hgw : Gr w W := (hg1.trans hg2).trans hg3
  have HG0 := Lib.hid (h0.trans hgw)
  have HE := Lib.hid (he.gr hgw)
  have HL := Lib.hid (hl.gr hgw)
  have HB0 : Hid (w0.heap.size ≤ W.heap.size ∧ w0.heap.size ≤ S ∧ w0.heap.size ≤ R ∧ R ≠ S) := Lib.hid (by
    have h1 := h0.size; have h2 := hgw.size
    exact ⟨by omega, by omega, by omega, by omega⟩)
  have HFT := Lib.hid hft
  have k0 : W.cell? ⟨S, 0, none⟩ = some (.int .i64 2) := by rw [cell_of_block hs]; rfl
  have hld : W.heap[D]? = some (.cells (decs t (.slice A n c) o g) 94 (0, 0)) := hb
  have HB := Lib.hid hb
  have HS := Lib.hid hs
  have HZ := Lib.hid hz
  rw [hW1] at hW2
  rw [hW2] at hW
  clear hg1 hg2 hg3 hb1 hs2 e1 e2 hW1 hW2 hb hs hz hgw h0 he hl hft
  have HCN := Lib.hid (fun w1 => counted_any t (.slice A n c) o g m w1)
  have v1 : W.cell? ⟨S, 1, none⟩ = some (.int .i64 m) := by rw [cell_of_block HS.out]; rfl
  go_enter Tryz.func48, Tryz.ntmps48
  go_upto_region 1 with (fail)
  change Code.wp Tryz.prog _ _ _ (((w.alloc (.cells (decs t (.slice A n c) o g) 94)).alloc (.cells (fsc 2 m (.slice A1 n1 c1) (.slice A2 n2 c2) has st top df) 39)).alloc (.cells (fsc 0 0 (.slice none 0 0) (.slice none 0 0) false 0 tg0 false) 39))
  rw [← hW, ← hR, ← hS, ← hD]
  clear hW hR hS hD
  go_wp2_with ((refine wpList_load_row rfl 94 (.tmp 2) rfl D rfl 94 (decs t (.slice A n c) o g) (0, 0) _ hld Tryz.underlying94 rfl dinfo ?_))
  refine (HCN.out _).mono ?_
  rintro e w2 ⟨rfl, g2⟩
  have hs2 := gr_obj g2 HS.out
  have q1 : w2.cell? ⟨S, 1, none⟩ = some (.int .i64 m) := by rw [cell_of_block hs2]; rfl
  have f1 := unfrozen_of_block hs2 1
  have HG2 := Lib.hid g2
  have HS2 := Lib.hid hs2
  clear v1 hld k0 g2 hs2
  go_upto_region 20 with (fail)
  obtain ⟨W4, hW4⟩ : ∃ X, X = w2.setCell ⟨S, 1, none⟩ (.int .i64 (cntZ o m)) := ⟨_, rfl⟩
  have hs4 : W4.heap[S]? = some (.cells (fsc 2 (cntZ o m) (.slice A1 n1 c1) (.slice A2 n2 c2) has st top df) 39 (0, 0)) := by rw [hW4]; exact set_obj (i := 1) HS2.out _
  have hz4 : W4.heap[R]? = some (.cells (fsc 0 0 (.slice none 0 0) (.slice none 0 0) false 0 tg0 false) 39 (0, 0)) := by rw [hW4]; exact set_obj_other (gr_obj HG2.out HZ.out) HB0.out.2.2.2 _
  have he4 : SO W4 w0.heap.size (.slice A1 n1 c1) E := by rw [hW4]; exact own_set_obj (HE.out.gr HG2.out) HS2.out (by decide) _
  have hl4 : GOw W4 w0.heap.size (.slice A2 n2 c2) L := by rw [hW4]; exact own_set_obj (HL.out.gr HG2.out) HS2.out (by decide) _
  have hg4 : Gr w0 W4 := by rw [hW4]; exact (HG0.out.trans HG2.out).setCell HB0.out.2.1 _
  rw [← hW4]
  clear hW4 q1 f1
  have HEW := Lib.hid (he4)
  have HLW := Lib.hid (hl4)
  have HGW := Lib.hid (hg4)
  go_wp2_with (first | (refine wpList_load_row rfl 39 (.tmp 3) rfl S rfl 39 (fsc 2 (cntZ o m) (.slice A1 n1 c1) (.slice A2 n2 c2) has st top df) (0, 0) _ hs4 Tryz.underlying39 rfl sinfo ?_) | (refine wpList_store_row rfl 39 (.tmp 4) (.tmp 83) rfl R (fsc 2 (cntZ o m) (.slice A1 n1 c1) (.slice A2 n2 c2) has st top df) rfl rfl 39 _ hz4 sinfo rfl (fsc_ones _ _ _ _ _ _ _ _ _ _ _ _) ?_))
  have HZF := Lib.hid (setRow_heap W4 R _ (fsc 2 (cntZ o m) (.slice A1 n1 c1) (.slice A2 n2 c2) has st top df) 39 _ hz4)
  have HF := Lib.hid (fin_rows ((fsc 2 (cntZ o m) (.slice A1 n1 c1) (.slice A2 n2 c2) has st top df)) hz4 HGW.out HB0.out.2.2.1 HEW.out HLW.out)
  clear hs4 hz4
  go_wp2_with fail
  exact bodyPost_ret (results_cell_row Tryz.results48 _ _ R 39 (fsc 2 (cntZ o m) (.slice A1 n1 c1) (.slice A2 n2 c2) has st top df) (0, 0) _ rfl HZF.out Tryz.underlying39 rfl sinfo) rfl ⟨_, rfl, ⟨_, _, rfl, HF.out.1, HF.out.2.1⟩, HF.out.2.2⟩
end Go.Proofs.YtlihcjlonafohaaGreat
