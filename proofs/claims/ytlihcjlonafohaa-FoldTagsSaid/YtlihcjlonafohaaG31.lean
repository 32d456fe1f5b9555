/- Texts VdB, VdC, VdD, VdE, FoK, FoL1, joined. -/
import Derived.Test.YtlihcjlonafohaaG23
import Derived.Test.YtlihcjlonafohaaG18
import Derived.Test.YtlihcjlonafohaaG29
import Derived.Test.YtlihcjlonafohaaG30
import Derived.Test.YtlihcjlonafohaaG15
/- Walks: the document's places. -/
namespace Go.Proofs.Ytlihcjlonafohaa
open Go.RowKit Go.Joins
set_option linter.unusedSimpArgs false
set_option linter.unusedVariables false

abbrev PR := (TX × Nat) × Value
def pcl (r : PR) : List Value := (pcs r.1.1 r.2 r.1.2).toList
theorem pcl_len (r : PR) : (pcl r).length = 13 := rfl
def pcells (R : List PR) : List Value := R.flatMap pcl
theorem pcells_len (R : List PR) : (pcells R).length = R.length * 13 := rows_len pcl 13 pcl_len R
/-- The places' lists of operations lie there. -/
def PLT (w : World) (R : List PR) : Prop := ∀ r ∈ R, TOV w r.2 r.1.1.ops
theorem PLT.gr {w w' : World} {R : List PR} (h : PLT w R) (g : Gr w w') : PLT w' R := fun r hr => (h r hr).gr g
theorem pcl_one {w : World} {r : PR} (h : TOV w r.2 r.1.1.ops) : ∀ u ∈ pcl r, u.oneCell' = true := by
  obtain ⟨A, c, hv, _⟩ := h
  intro u hu
  unfold pcl at hu
  rw [hv] at hu
  simp only [List.mem_cons, List.not_mem_nil, or_false] at hu
  rcases hu with rfl | rfl | rfl | rfl | rfl | rfl | rfl | rfl | rfl | rfl | rfl | rfl | rfl <;> rfl
/-- The places of a kind on a key: of one transaction the first j operations; of the first k transactions. -/
def isPl (key : ByteArray) (kind : Int) (o : TO) : Bool := eqS o.key key && decide (o.kind = kind)
def plTx (key : ByteArray) (kind : Int) (t : TX) : Nat → List (TX × Nat)
  | 0 => []
  | j + 1 => plTx key kind t j ++ (match t.ops[j]? with | some o => if isPl key kind o = true then [(t, j)] else [] | none => [])
def plTo (key : ByteArray) (kind : Int) (L : List TX) : Nat → List (TX × Nat)
  | 0 => []
  | k + 1 => plTo key kind L k ++ (match L[k]? with | some t => plTx key kind t t.ops.length | none => [])
def plL (key : ByteArray) (kind : Int) (L : List TX) : List (TX × Nat) := plTo key kind L L.length
theorem plTx_next {key : ByteArray} {kind : Int} {t : TX} {j : Nat} {o : TO} (h : t.ops[j]? = some o) : plTx key kind t (j + 1) = plTx key kind t j ++ (if isPl key kind o = true then [(t, j)] else []) := by
  show plTx key kind t j ++ _ = _
  rw [h]
theorem plTo_next {key : ByteArray} {kind : Int} {L : List TX} {k : Nat} {t : TX} (h : L[k]? = some t) : plTo key kind L (k + 1) = plTo key kind L k ++ plTx key kind t t.ops.length := by
  show plTo key kind L k ++ _ = _
  rw [h]
theorem plTx_len (key : ByteArray) (kind : Int) (t : TX) : ∀ j, (plTx key kind t j).length ≤ j
  | 0 => Nat.le_refl _
  | j + 1 => by
    have ih := plTx_len key kind t j
    show (plTx key kind t j ++ _).length ≤ _
    rw [List.length_append]
    split
    · split
      · simp only [List.length_singleton]; omega
      · simp only [List.length_nil]; omega
    · simp only [List.length_nil]; omega
theorem plTo_len (key : ByteArray) (kind : Int) (L : List TX) (h : ∀ t ∈ L, t.ops.length ≤ 8) : ∀ k, (plTo key kind L k).length ≤ k * 8
  | 0 => Nat.le_refl _
  | k + 1 => by
    have ih := plTo_len key kind L h k
    show (plTo key kind L k ++ _).length ≤ _
    rw [List.length_append]
    split
    · next t ht =>
      have h1 := plTx_len key kind t t.ops.length
      have h2 := h t (List.mem_of_getElem? ht)
      omega
    · simp only [List.length_nil]; omega
theorem opCellsB (w : World) (o : TO) : ∃ W, W = w.alloc (.cells (opv o) 46) ∧ Gr w W ∧ W.cell? ⟨w.heap.size, 0, none⟩ = some (.int .i64 o.kind) ∧ W.cell? ⟨w.heap.size, 1, none⟩ = some (.string o.key) := by
  refine ⟨_, rfl, (Gr.refl w).alloc _, ?_, ?_⟩ <;> (rw [cell_of_block (heap_alloc w (opv o) 46)]; rfl)
end Go.Proofs.Ytlihcjlonafohaa
/- Walks: the document's answered, covered, firm. -/
namespace Go.Proofs.Ytlihcjlonafohaa
open Go.RowKit Go.Joins
set_option linter.unusedSimpArgs false
set_option linter.unusedVariables false

/-- The places are places of operations. -/
def InP (L : List (TX × Nat)) : Prop := ∀ x ∈ L, x.2 < x.1.ops.length
def elP (x : TX × Nat) : ByteArray := (opAt x.1 x.2).elem
/-- Is there one of them, of the same element, that saw it? -/
def ansB (x : TX × Nat) (L : List (TX × Nat)) : Bool := L.any fun y => eqS (elP y) (elP x) && seenP x y
def covB (x : TX × Nat) (L : List (TX × Nat)) : Bool := L.any fun y => seenP x y
def firB (e : ByteArray) (A R : List (TX × Nat)) : Bool := R.all fun r => !(eqS (elP r) e && !ansB r A)
theorem any_upto {α : Type} {p : α → Bool} {L : List α} (h : ∀ j (hj : j < L.length), p L[j] = false) : L.any p = false := by
  rw [List.any_eq_false]
  intro x hx
  obtain ⟨j, hj, rfl⟩ := List.mem_iff_getElem.1 hx
  rw [h j hj]
  simp
end Go.Proofs.Ytlihcjlonafohaa
/- Walks: the document's covered, firm, Into, sum. -/
namespace Go.Proofs.Ytlihcjlonafohaa
open Go.RowKit Go.Joins
set_option linter.unusedSimpArgs false
set_option linter.unusedVariables false

end Go.Proofs.Ytlihcjlonafohaa
/- Walks: the document's Into. -/
namespace Go.Proofs.Ytlihcjlonafohaa
open Go.RowKit Go.Joins
set_option linter.unusedSimpArgs false
set_option linter.unusedVariables false

theorem SV.takeQ {w : World} {n c k : Nat} {A : Option Addr} {L : List ByteArray} (h : SV w (.slice A n c) L) (hk : k ≤ L.length) : SV w (.slice A k c) (L.take k) := by
  obtain ⟨A', c', hv, h1, h2, h3⟩ := h
  injection hv with e1 e2 e3
  subst e1 e3
  refine ⟨A, c, by rw [List.length_take, Nat.min_eq_left hk], by rw [List.length_take]; omega, h2, fun j hj => ?_⟩
  rw [List.length_take] at hj
  obtain ⟨b, off, ha, hc⟩ := h3 j (by omega)
  exact ⟨b, off, ha, by rw [List.getElem_take]; exact hc⟩
theorem SV.dropQ {w : World} {A : Option Addr} {n c k : Nat} {L : List ByteArray} (h : SV w (.slice A n c) L) (hk : k ≤ n) : SV w (sliced A k n c 1) (L.drop k) := by
  obtain ⟨A', c', hv, h1, ⟨h2, h2'⟩, h3⟩ := h
  injection hv with e1 e2 e3
  subst e1 e2 e3
  refine ⟨if c = k then A else A.map (·.add (k * 1)), c - k, by rw [List.length_drop]; rfl, by rw [List.length_drop]; omega, ⟨by omega, fun e => ?_⟩, fun j hj => ?_⟩
  · by_cases q : c = k
    · omega
    · rw [if_neg q] at e
      have : A = none := by cases A with | none => rfl | some a => cases e
      have := h2' this
      omega
  · rw [List.length_drop] at hj
    obtain ⟨b, off, ha, hc⟩ := h3 (k + j) (by omega)
    subst ha
    refine ⟨b, off + k * 1, ?_, ?_⟩
    · rw [if_neg (by omega)]
      show some ((⟨b, off, none⟩ : Addr).add (k * 1)) = _
      rw [Go.WideShapes.add_plain]
    · rw [List.getElem_drop, show off + k * 1 + j = off + (k + j) by omega]
      exact hc
theorem sv_one (w : World) (s : ByteArray) : SV (w.alloc (.cells #[.string s] 9)) (.slice (some ⟨w.heap.size, 0, none⟩) 1 1) [s] := by
  refine ⟨_, 1, rfl, Nat.le_refl _, ⟨by decide, fun h => by cases h⟩, fun j hj => ⟨w.heap.size, 0, rfl, ?_⟩⟩
  have : j = 0 := by simp at hj; omega
  subst this
  rw [World.cell?_alloc_mark]; rfl
theorem intoT_len (s : ByteArray) (L : List ByteArray) : (intoT s L).length ≤ L.length + 1 := by rw [intoT_ins]; exact insRs_len s L
end Go.Proofs.Ytlihcjlonafohaa
/- Walk: value.Into of the program. -/
namespace Go.Proofs.Ytlihcjlonafohaa
open Go.RowKit Go.Joins
set_option linter.unusedSimpArgs false
set_option linter.unusedVariables false

def geS (s x : ByteArray) : Bool := !lessS x s
theorem plcS_find (s : ByteArray) : ∀ L : List ByteArray, L.findIdx (geS s) = plcS s L
  | [] => rfl
  | a :: r => by
    have ih := plcS_find s r
    rw [List.findIdx_cons, ih]
    show (bif geS s a then 0 else plcS s r + 1) = if lessS a s = true then plcS s r + 1 else 0
    unfold geS
    cases lessS a s <;> rfl
theorem insertIdx_cut {α : Type} (M : List α) (i : Nat) (p : α) (h : i ≤ M.length) : M.insertIdx i p = M.take i ++ p :: M.drop i := by
  induction M generalizing i with
  | nil => obtain rfl : i = 0 := by simpa using h
           rfl
  | cons a M ih =>
    cases i with
    | zero => rfl
    | succ i => rw [List.insertIdx_succ_cons, ih i (by simpa using h)]; rfl
set_option maxRecDepth 100000 in
theorem into1_any (b : Nat) (s x : ByteArray) (w : World) (h : w.cell? ⟨b, 0, none⟩ = some (.string s)) : Calls Try.prog 58 #[.string x, .pointer (some ⟨b, 0, none⟩)] w fun e w' => e = .returned (.bool (geS s x)) ∧ Gr w w' := by
  obtain ⟨r, hr⟩ : ∃ r, r = lessS x s := ⟨_, rfl⟩
  have hl : Go.Op.bytesLess x.toList s.toList = r := hr.symm
  have HE : Hid (geS s x = !r) := Lib.hid (by rw [hr]; rfl)
  clear hr
  cases r with
  | false =>
    go_enter Try.func58, Try.ntmps58
    go_wp2_with fail
    go_ret
    exact ⟨by rw [HE.out]; rfl, Gr.refl _⟩
  | true =>
    go_enter Try.func58, Try.ntmps58
    go_wp2_with fail
    go_ret
    exact ⟨by rw [HE.out]; rfl, Gr.refl _⟩
set_option maxRecDepth 100000 in
set_option maxHeartbeats 4000000 in
theorem into_any (v : Value) (E : List ByteArray) (s : ByteArray) (w : World) (hv : SV w v E) (hlen : E.length ≤ 1000000) (hsz : ∀ x ∈ E, x.size ≤ 281474976710656) (hss : s.size ≤ 281474976710656) :
    Calls Try.prog 36 #[v, .string s] w fun e w' => RetStrsV (intoT s E) w e w' := by
  obtain ⟨W, hW, hg, hb⟩ : ∃ W, W = w.alloc (.cells #[.string s] 9) ∧ Gr w W ∧ W.heap[w.heap.size]? = some (.cells #[.string s] 9 (0, 0)) := ⟨_, rfl, (Gr.refl _).alloc _, heap_alloc _ _ _⟩
  obtain ⟨b, hbb⟩ : ∃ b, b = w.heap.size := ⟨_, rfl⟩
  rw [← hbb] at hb
  have HBW : Hid (w.heap.size ≤ W.heap.size ∧ w.heap.size ≤ b ∧ b < W.heap.size) := Lib.hid ⟨hg.size, by omega, (Array.getElem?_eq_some_iff.1 hb).1⟩
  have hbc : W.cell? ⟨b, 0, none⟩ = some (.string s) := by rw [cell_of_block hb]; rfl
  have HBC := Lib.hid hbc
  have HG := Lib.hid hg
  have HCP := Lib.hid (copiesV_any v E W (hv.gr hg) hlen hsz)
  have HVV := Lib.hid (hv.gr hg)
  have HCL := Lib.hid (fun w1 => clone_any s hss w1)
  have HLEN := Lib.hid hlen
  have heg : ∀ args w, (callFunc 58 args).run Try.prog w = .ok (.enter 58 args) w := fun args w => by kernel_rfl
  have HIX := Lib.hid (fun w1 (g1 : Gr W w1) => indexS_any v E 58 b (b + 1) (geS s) (fun w => w.cell? ⟨b, 0, none⟩ = some (.string s)) w1 (HVV.out.gr g1)
    ⟨fun w w' g h k hk => k.cell h (fun e => by have := Option.some.inj e; simp only at this; omega), fun w w' h g => g.cell h, fun x _ w h => into1_any b s x w h, heg⟩ (g1.cell HBC.out))
  obtain ⟨A, c, hvf, hnc, ⟨hcm, -⟩, hat⟩ := hv
  subst hvf
  have HAT : Hid (∀ j (hj : j < E.length), ∃ b off, A = some ⟨b, off, none⟩ ∧ w.cell? ⟨b, off + j, none⟩ = some (.string E[j])) := Lib.hid hat
  have hc63 : c ≤ 9223372036854775807 := by unfold maxLen at hcm; omega
  obtain ⟨n, hn⟩ : ∃ n, n = E.length := ⟨_, rfl⟩
  rw [← hn] at HCP HIX hnc hlen ⊢
  have HN := Lib.hid hn
  clear hn hat hcm hg hb hbc hsz hss heg
  go_enter Try.func36, Try.ntmps36
  go_upto_region 1 with (fail)
  rw [← hW, ← hbb]
  clear hW hbb
  go_wp2_with fail
  refine HCP.out.mono ?_
  rintro e w1 ⟨v1, rfl, ho1, g1⟩
  have HO1 : Hid (SO w1 w.heap.size v1 E) := Lib.hid (ho1.le HBW.out.1)
  have HG1 := Lib.hid g1
  obtain ⟨A1, c1, hv1, -, -⟩ := own_form ho1
  rw [← HN.out] at hv1
  subst hv1
  clear ho1 g1
  go_wp2_with fail
  refine (HIX.out w1 HG1.out).mono ?_
  rintro e w2 ⟨rfl, g2⟩
  have HG2 := Lib.hid (HG1.out.trans g2)
  have HO2 : Hid (SO w2 w.heap.size (.slice A1 n c1) E) := Lib.hid (HO1.out.gr g2)
  have hbc2 := HG2.out.cell HBC.out
  clear g2
  by_cases hf : plcS s E < E.length
  case neg =>
    have hi : pcsI (geS s) E = -1 := by unfold pcsI; rw [plcS_find, if_neg hf]
    rw [hi]
    have HT : Hid (intoT s E = E ++ [s]) := Lib.hid (by
      have e : plcS s E = E.length := Nat.le_antisymm (plcS_le s E) (Nat.le_of_not_lt hf)
      unfold intoT
      rw [e, List.getElem?_eq_none (Nat.le_refl _), if_neg (by simp), List.take_length, List.drop_length])
    clear hi hf
    go_wp2_with fail
    refine (HCL.out _).mono ?_
    rintro e w3 ⟨rfl, g3⟩
    have HG3 := Lib.hid (HG.out.trans (HG2.out.trans g3))
    have HO3 : Hid (SO w3 w.heap.size (.slice A1 n c1) E) := Lib.hid (HO2.out.gr g3)
    obtain ⟨W4, hW4, g4, hs4⟩ : ∃ W, W = w3.alloc (.cells #[.string s] 9) ∧ Gr w3 W ∧ SV W (.slice (some ⟨w3.heap.size, 0, none⟩) 1 1) [s] := ⟨_, rfl, (Gr.refl _).alloc _, sv_one w3 s⟩
    have HS4 := Lib.hid hs4
    have HO4 : Hid (SO W4 w.heap.size (.slice A1 n c1) E) := Lib.hid (HO3.out.gr g4)
    have HG4 : Hid (Gr w W4) := Lib.hid (HG3.out.trans g4)
    have hz : (n + 1) * 16 ≤ 140737488355328 := by omega
    rw [hW4] at HS4 HO4 HG4
    clear g3 hs4 g4 hW4 hbc2
    go_wp2_with (at_builtin; refine wpList_push_n (w0 := w) rfl (.tmp 14) (.tmp 17) rfl (.slice A1 n c1) (.slice (some ⟨w3.heap.size, 0, none⟩) 1 1) E [s] n 1 HN.out rfl rfl HO4.out rfl HS4.out hz HG4.out ?_)
    intro A' c' w5 hown g5
    have HO := Lib.hid hown
    have HG5 := Lib.hid g5
    clear hown g5
    go_wp2
    go_ret
    exact ⟨_, rfl, by rw [HT.out]; exact HO.out, HG5.out⟩
  have hi : pcsI (geS s) E = ((plcS s E : Nat) : Int) := by unfold pcsI; rw [plcS_find, if_pos hf]
  rw [hi]
  obtain ⟨j, hj⟩ : ∃ j, j = plcS s E := ⟨_, rfl⟩
  rw [← hj] at hf
  rw [← hj]
  have HJ := Lib.hid hj
  have hj0 : (0 : Int) ≤ (j : Int) := Int.natCast_nonneg _
  have hjn : ¬ (j : Int) < 0 := by omega
  have hj1 : (j : Int) < (n : Int) := by have := HN.out; omega
  obtain ⟨bb, off, hA, q0⟩ := HAT.out j hf
  subst hA
  have q1 := HG2.out.cell (HG.out.cell q0)
  obtain ⟨x, hx⟩ : ∃ x, x = E[j] := ⟨_, rfl⟩
  rw [← hx] at q1
  have HQ : Hid (w2.cell? ⟨bb, off + j, none⟩ = some (.string x) ∧ w2.cell? ⟨b, 0, none⟩ = some (.string s) ∧ Gr w2 w2) := Lib.hid ⟨q1, hbc2, Gr.refl _⟩
  clear hi hj q0 q1 hbc2
  rcases hq : eqS x s with _ | _
  · have ht : (x.toList == s.toList) = false := hq
    have HT : Hid (intoT s E = E.insertIdx j s) := Lib.hid (by
      rw [insertIdx_cut E j s (Nat.le_of_lt hf)]
      unfold intoT
      rw [← HJ.out, List.getElem?_eq_getElem hf, ← hx, if_neg]
      intro e
      have := Option.some.inj e
      rw [this, eqS_self] at hq
      cases hq)
    have hfl : j ≤ E.length := Nat.le_of_lt hf
    clear hq hx
    go_upto_region 5 with (fail)
    refine qRegion (fun w' => w'.cell? ⟨bb, off + j, none⟩ = some (.string x) ∧ w'.cell? ⟨b, 0, none⟩ = some (.string s) ∧ Gr w2 w') (by kernel_rfl) (by kernel_rfl) ⟨(Gr.refl _).drew.cell HQ.out.1, (Gr.refl _).drew.cell HQ.out.2.1, (Gr.refl _).drew⟩ ?_
    iterate 6
      refine qTake (by kernel_rfl) ?_
      apply Exists.intro
      refine ⟨fun wq hq => ?_, ?_⟩
      · go_light
        obtain ⟨e0, e1, -⟩ := hq
        go_simp
        try with_reducible rfl
        done
      try simp only [Act.put, List.setIfInBounds_toArray, List.set_cons_zero, List.set_cons_succ]
    refine qNil ?_
    intro w3 hC
    have hbc3 := hC.2.1
    have HG3 := Lib.hid hC.2.2
    clear hC
    go_wp2_with fail
    refine (HCL.out _).mono ?_
    rintro e w4 ⟨rfl, g4⟩
    have HG4 := Lib.hid ((HG.out.trans HG2.out).trans (HG3.out.trans g4))
    obtain ⟨W5, hW5⟩ : ∃ W, W = w4.alloc (.cells #[.string s] 9) := ⟨_, rfl⟩
    have g5 : Gr w4 W5 := by rw [hW5]; exact (Gr.refl _).alloc _
    have hone : W5.ownsRow w4.heap.size 9 1 (.slice (some ⟨w4.heap.size, 0, none⟩) 1 1) 1 (scell s) := by
      rw [hW5]
      exact ⟨scell_len s, .inr ⟨w4.heap.size, 1, #[.string s], rfl, Nat.le_refl _, heap_alloc _ _ _, Nat.le_refl _, by unfold maxLen; omega, rfl, rfl⟩⟩
    have ho5 : SO W5 w.heap.size (.slice A1 n c1) E := ((HO2.out.gr HG3.out).gr g4).gr g5
    have hgw5 : Gr w W5 := HG4.out.trans g5
    have hne : Value.ownBlock (.slice A1 n c1) ≠ some w4.heap.size := fun e => by have := (World.ownsRow.lt ((HO2.out.gr HG3.out).gr g4) w4.heap.size e).2; omega
    have HIN := Lib.hid (insert_anyS (.slice A1 n c1) E w.heap.size j w4.heap.size w4.heap.size s W5 ho5 hgw5.size hfl (by have := HLEN.out; omega) hne hone)
    have fin : ∀ e w', RetInsS E w.heap.size j s (.slice A1 n c1) W5 e w' → RetStrsV (intoT s E) w e w' := fun e w' ⟨v', h1, h2, h3, h4⟩ =>
      ⟨v', h1, by rw [HT.out]; exact h2, Below.trans hgw5 (h4.below hgw5.size (fun g hg => (World.ownsRow.lt ho5 g hg).1))⟩
    have FIN := Lib.hid fin
    rw [hW5] at HIN
    clear g4 g5 hone ho5 hgw5 hne fin hbc3
    go_wp2_with fail
    refine HIN.out.mono ?_
    rintro e w6 hh
    rw [← hW5] at hh
    obtain ⟨v', rfl, h2⟩ := hh
    have HH := Lib.hid h2
    clear h2
    go_wp2_with fail
    go_ret
    exact FIN.out _ _ ⟨v', rfl, HH.out⟩
  · have ht : (x.toList == s.toList) = true := hq
    have HT : Hid (intoT s E = E) := Lib.hid (by
      unfold intoT
      rw [← HJ.out, List.getElem?_eq_getElem hf, ← hx, eqS_iff.1 hq, if_pos rfl])
    clear hq hx
    go_upto_region 5 with (fail)
    refine qRegion (fun w' => w'.cell? ⟨bb, off + j, none⟩ = some (.string x) ∧ w'.cell? ⟨b, 0, none⟩ = some (.string s) ∧ Gr w2 w') (by kernel_rfl) (by kernel_rfl) ⟨(Gr.refl _).drew.cell HQ.out.1, (Gr.refl _).drew.cell HQ.out.2.1, (Gr.refl _).drew⟩ ?_
    iterate 6
      refine qTake (by kernel_rfl) ?_
      apply Exists.intro
      refine ⟨fun wq hq => ?_, ?_⟩
      · go_light
        obtain ⟨e0, e1, -⟩ := hq
        go_simp
        try with_reducible rfl
        done
      try simp only [Act.put, List.setIfInBounds_toArray, List.set_cons_zero, List.set_cons_succ]
    refine qNil ?_
    intro w3 hC
    have HG3 := Lib.hid hC.2.2
    clear hC
    go_wp2_with fail
    go_ret
    exact ⟨_, rfl, by rw [HT.out]; exact HO2.out.gr HG3.out, (HG.out.trans HG2.out).trans HG3.out⟩
end Go.Proofs.Ytlihcjlonafohaa
/- Walk: done, the state behind a deed (Counter, Bound). Written by wip/tools/genfol.py. -/
namespace Go.Proofs.Ytlihcjlonafohaa
open Go.RowKit Go.Joins
set_option linter.unusedSimpArgs false
set_option linter.unusedVariables false

/-- What a deed makes of a state. -/
def doneS (t : TX) (o : TO) (g : TG) (s : FS) : FS :=
  if s.k = 1 ∨ s.k = 2 then { s with n := cntZ o s.n }
  else if s.k = 3 ∨ s.k = 8 then { s with live := mrkL t o g 4 5 s.live }
  else if s.k = 4 then { s with ever := if o.kind = 4 then intoT o.elem s.ever else s.ever, live := mrkL t o g 5 4 s.live }
  else if s.k = 5 then (if o.kind = 6 ∧ latB t g s.has s.st s.top = true then { s with has := true, st := t.stamp, top := g } else s)
  else if s.k = 6 then { s with live := mrkL t o g 6 6 s.live }
  else if s.k = 7 then { s with df := s.df && !decide (o.kind = 8), live := mrkL t o g 7 8 s.live }
  else s
/-- The call's answer: this state, its lists the caller's own. -/
def RetD (w0 : World) (s : FS) (e : Ending) (w' : World) : Prop := ∃ v, e = .returned v ∧ FV w' w0.heap.size v s ∧ Gr w0 w'
structure FitD (E : List ByteArray) (L : List TG) (o : TO) : Prop where
  live : (L.length + 1) * 40 ≤ 140737488355328
  ever : E.length ≤ 1000000
  sz : ∀ s ∈ E, s.size ≤ 281474976710656
  oe : o.elem.size ≤ 281474976710656
open Go.RowKit in
theorem wpList_load_rowG {ops : Array Oper} {rest : List Oper} {o : Oper} {a : Act} {w : World} {Q : Exit → Act → World → Prop} (hw : Region.wanted o (yielded ops a.tmps) = true) (ty : TypeId) (x : Operand) (ho : o.op = .load ty x)
    (g : Nat) (hx : a.eval x = .pointer (some ⟨g, 0, none⟩)) (t : TypeId) (cs : Array Value) (fr : Nat × Nat) (fs : Array Field) (hg : w.heap[g]? = some (.cells cs t fr))
    (hu : Try.prog.underlying ty = some (.struct fs)) (hi : (Try.prog.info? ty).map (·.size) = some cs.size)
    (h : wpList Try.prog ops Q rest (a.put o.dst (.agg cs)) w) : wpList Try.prog ops Q (o :: rest) a w :=
  Go.BigFrame.wpList_want hw fun _ hK => wp_load_row ty x ho g hx t cs fr (.struct fs) hg hu rfl hi (hK _ _ h)
theorem kp_setRow (w : World) (g : Nat) (cs : Array Value) : Kp (some g) w (w.setRow g cs) :=
  ⟨rfl, rfl, rfl, by simp [World.setRow], fun k hk hne => setRow_other w g k cs (fun e => hne (by rw [e]))⟩
theorem fin_rows {w0 w : World} {R : Nat} {z : Array Value} {ve vl : Value} {E : List ByteArray} {L : List TG} (out : Array Value) (hz : w.heap[R]? = some (.cells z 38 (0, 0))) (hg : Gr w0 w) (hR : w0.heap.size ≤ R) (he : SO w w0.heap.size ve E) (hl : GOw w w0.heap.size vl L) :
    SO (w.setRow R out) w0.heap.size ve E ∧ GOw (w.setRow R out) w0.heap.size vl L ∧ Gr w0 (w.setRow R out) :=
  ⟨World.ownsRow.kept he (kp_setRow w R out) (.inr (own_ne_obj he hz (by decide))), World.ownsRow.kept hl (kp_setRow w R out) (.inr (own_ne_obj hl hz (by decide))), below_setRow hg hR out⟩
set_option maxRecDepth 100000 in
set_option maxHeartbeats 4000000 in
theorem done1_any (t : TX) (A : Option Addr) (n c : Nat) (o : TO) (g : TG) (m : Int) (A1 A2 : Option Addr) (n1 c1 n2 c2 : Nat) (E : List ByteArray) (L : List TG) (has : Bool) (st : Nat) (top : TG) (df : Bool) (w0 w : World) (h0 : Gr w0 w) (he : SO w w0.heap.size (.slice A1 n1 c1) E) (hl : GOw w w0.heap.size (.slice A2 n2 c2) L) (hft : FitD E L o) :
    Calls Try.prog 23 #[.agg (decs t (.slice A n c) o g), .agg (fsc 1 m (.slice A1 n1 c1) (.slice A2 n2 c2) has st top df)] w fun e w' => RetD w0 ⟨1, cntZ o m, E, L, has, st, top, df⟩ e w' := by
  obtain ⟨W1, hW1, hg1, hb1⟩ := fdbox w t (.slice A n c) o g
  obtain ⟨W2, hW2, hg2, hs2⟩ : ∃ W, W = W1.alloc (.cells (fsc 1 m (.slice A1 n1 c1) (.slice A2 n2 c2) has st top df) 38) ∧ Gr W1 W ∧ W.heap[W1.heap.size]? = some (.cells (fsc 1 m (.slice A1 n1 c1) (.slice A2 n2 c2) has st top df) 38 (0, 0)) := ⟨_, rfl, (Gr.refl _).alloc _, heap_alloc _ _ _⟩
  obtain ⟨W, hW, hg3, hz⟩ : ∃ W, W = W2.alloc (.cells (fsc 0 0 (.slice none 0 0) (.slice none 0 0) false 0 tg0 false) 38) ∧ Gr W2 W ∧ W.heap[W2.heap.size]? = some (.cells (fsc 0 0 (.slice none 0 0) (.slice none 0 0) false 0 tg0 false) 38 (0, 0)) := ⟨_, rfl, (Gr.refl _).alloc _, heap_alloc _ _ _⟩
  have e1 : W1.heap.size = w.heap.size + 1 := by rw [hW1]; simp
  have e2 : W2.heap.size = w.heap.size + 1 + 1 := by rw [hW2]; simp [e1]
  obtain ⟨D, hD⟩ : ∃ S, S = w.heap.size := ⟨_, rfl⟩
  obtain ⟨S, hS⟩ : ∃ S, S = w.heap.size + 1 := ⟨_, rfl⟩
  obtain ⟨R, hR⟩ : ∃ S, S = w.heap.size + 1 + 1 := ⟨_, rfl⟩
  rw [← hD] at hb1
  rw [e1, ← hS] at hs2
  rw [e2, ← hR] at hz
  have hb : DBox W D t (.slice A n c) o g := (hb1.gr hg2).gr hg3
  have hs := gr_obj hg3 hs2
  have hgw : Gr w W := (hg1.trans hg2).trans hg3
  have HG0 := Lib.hid (h0.trans hgw)
  have HE := Lib.hid (he.gr hgw)
  have HL := Lib.hid (hl.gr hgw)
  have HB0 : Hid (w0.heap.size ≤ W.heap.size ∧ w0.heap.size ≤ S ∧ w0.heap.size ≤ R ∧ R ≠ S) := Lib.hid (by
    have h1 := h0.size; have h2 := hgw.size
    exact ⟨by omega, by omega, by omega, by omega⟩)
  have HFT := Lib.hid hft
  have k0 : W.cell? ⟨S, 0, none⟩ = some (.int .i64 1) := by rw [cell_of_block hs]; rfl
  have hld : W.heap[D]? = some (.cells (decs t (.slice A n c) o g) 62 (0, 0)) := hb
  have HB := Lib.hid hb
  have HS := Lib.hid hs
  have HZ := Lib.hid hz
  rw [hW1] at hW2
  rw [hW2] at hW
  clear hg1 hg2 hg3 hb1 hs2 e1 e2 hW1 hW2 hb hs hz hgw h0 he hl hft
  have HCN := Lib.hid (fun w1 => counted_any t (.slice A n c) o g m w1)
  have v1 : W.cell? ⟨S, 1, none⟩ = some (.int .i64 m) := by rw [cell_of_block HS.out]; rfl
  go_enter Try.func23, Try.ntmps23
  go_upto_region 1 with (fail)
  change Code.wp Try.prog _ _ _ (((w.alloc (.cells (decs t (.slice A n c) o g) 62)).alloc (.cells (fsc 1 m (.slice A1 n1 c1) (.slice A2 n2 c2) has st top df) 38)).alloc (.cells (fsc 0 0 (.slice none 0 0) (.slice none 0 0) false 0 tg0 false) 38))
  rw [← hW, ← hR, ← hS, ← hD]
  clear hW hR hS hD
  go_wp2_with ((refine wpList_load_row rfl 62 (.tmp 2) rfl D rfl 62 (decs t (.slice A n c) o g) (0, 0) _ hld Try.underlying62 rfl dinfo ?_))
  refine (HCN.out _).mono ?_
  rintro e w2 ⟨rfl, g2⟩
  have hs2 := gr_obj g2 HS.out
  have q1 : w2.cell? ⟨S, 1, none⟩ = some (.int .i64 m) := by rw [cell_of_block hs2]; rfl
  have f1 := unfrozen_of_block hs2 1
  have HG2 := Lib.hid g2
  have HS2 := Lib.hid hs2
  clear v1 hld k0 g2 hs2
  go_upto_region 20 with (fail)
  obtain ⟨W4, hW4⟩ : ∃ X, X = w2.setCell ⟨S, 1, none⟩ (.int .i64 (cntZ o m)) := ⟨_, rfl⟩
  have hs4 : W4.heap[S]? = some (.cells (fsc 1 (cntZ o m) (.slice A1 n1 c1) (.slice A2 n2 c2) has st top df) 38 (0, 0)) := by rw [hW4]; exact set_obj (i := 1) HS2.out _
  have hz4 : W4.heap[R]? = some (.cells (fsc 0 0 (.slice none 0 0) (.slice none 0 0) false 0 tg0 false) 38 (0, 0)) := by rw [hW4]; exact set_obj_other (gr_obj HG2.out HZ.out) HB0.out.2.2.2 _
  have he4 : SO W4 w0.heap.size (.slice A1 n1 c1) E := by rw [hW4]; exact own_set_obj (HE.out.gr HG2.out) HS2.out (by decide) _
  have hl4 : GOw W4 w0.heap.size (.slice A2 n2 c2) L := by rw [hW4]; exact own_set_obj (HL.out.gr HG2.out) HS2.out (by decide) _
  have hg4 : Gr w0 W4 := by rw [hW4]; exact (HG0.out.trans HG2.out).setCell HB0.out.2.1 _
  rw [← hW4]
  clear hW4 q1 f1
  have HEW := Lib.hid (he4)
  have HLW := Lib.hid (hl4)
  have HGW := Lib.hid (hg4)
  go_wp2_with (first | (refine wpList_load_row rfl 38 (.tmp 3) rfl S rfl 38 (fsc 1 (cntZ o m) (.slice A1 n1 c1) (.slice A2 n2 c2) has st top df) (0, 0) _ hs4 Try.underlying38 rfl sinfo ?_) | (refine wpList_store_row rfl 38 (.tmp 4) (.tmp 83) rfl R (fsc 1 (cntZ o m) (.slice A1 n1 c1) (.slice A2 n2 c2) has st top df) rfl rfl 38 _ hz4 sinfo rfl (fsc_ones _ _ _ _ _ _ _ _ _ _ _ _) ?_))
  have HZF := Lib.hid (setRow_heap W4 R _ (fsc 1 (cntZ o m) (.slice A1 n1 c1) (.slice A2 n2 c2) has st top df) 38 _ hz4)
  have HF := Lib.hid (fin_rows ((fsc 1 (cntZ o m) (.slice A1 n1 c1) (.slice A2 n2 c2) has st top df)) hz4 HGW.out HB0.out.2.2.1 HEW.out HLW.out)
  clear hs4 hz4
  go_wp2_with fail
  exact bodyPost_ret (results_cell_row Try.results23 _ _ R 38 (fsc 1 (cntZ o m) (.slice A1 n1 c1) (.slice A2 n2 c2) has st top df) (0, 0) _ rfl HZF.out Try.underlying38 rfl sinfo) rfl ⟨_, rfl, ⟨_, _, rfl, HF.out.1, HF.out.2.1⟩, HF.out.2.2⟩
set_option maxRecDepth 100000 in
set_option maxHeartbeats 4000000 in
theorem done2_any (t : TX) (A : Option Addr) (n c : Nat) (o : TO) (g : TG) (m : Int) (A1 A2 : Option Addr) (n1 c1 n2 c2 : Nat) (E : List ByteArray) (L : List TG) (has : Bool) (st : Nat) (top : TG) (df : Bool) (w0 w : World) (h0 : Gr w0 w) (he : SO w w0.heap.size (.slice A1 n1 c1) E) (hl : GOw w w0.heap.size (.slice A2 n2 c2) L) (hft : FitD E L o) :
    Calls Try.prog 23 #[.agg (decs t (.slice A n c) o g), .agg (fsc 2 m (.slice A1 n1 c1) (.slice A2 n2 c2) has st top df)] w fun e w' => RetD w0 ⟨2, cntZ o m, E, L, has, st, top, df⟩ e w' := by
  obtain ⟨W1, hW1, hg1, hb1⟩ := fdbox w t (.slice A n c) o g
  obtain ⟨W2, hW2, hg2, hs2⟩ : ∃ W, W = W1.alloc (.cells (fsc 2 m (.slice A1 n1 c1) (.slice A2 n2 c2) has st top df) 38) ∧ Gr W1 W ∧ W.heap[W1.heap.size]? = some (.cells (fsc 2 m (.slice A1 n1 c1) (.slice A2 n2 c2) has st top df) 38 (0, 0)) := ⟨_, rfl, (Gr.refl _).alloc _, heap_alloc _ _ _⟩
  obtain ⟨W, hW, hg3, hz⟩ : ∃ W, W = W2.alloc (.cells (fsc 0 0 (.slice none 0 0) (.slice none 0 0) false 0 tg0 false) 38) ∧ Gr W2 W ∧ W.heap[W2.heap.size]? = some (.cells (fsc 0 0 (.slice none 0 0) (.slice none 0 0) false 0 tg0 false) 38 (0, 0)) := ⟨_, rfl, (Gr.refl _).alloc _, heap_alloc _ _ _⟩
  have e1 : W1.heap.size = w.heap.size + 1 := by rw [hW1]; simp
  have e2 : W2.heap.size = w.heap.size + 1 + 1 := by rw [hW2]; simp [e1]
  obtain ⟨D, hD⟩ : ∃ S, S = w.heap.size := ⟨_, rfl⟩
  obtain ⟨S, hS⟩ : ∃ S, S = w.heap.size + 1 := ⟨_, rfl⟩
  obtain ⟨R, hR⟩ : ∃ S, S = w.heap.size + 1 + 1 := ⟨_, rfl⟩
  rw [← hD] at hb1
  rw [e1, ← hS] at hs2
  rw [e2, ← hR] at hz
  have hb : DBox W D t (.slice A n c) o g := (hb1.gr hg2).gr hg3
  have hs := gr_obj hg3 hs2
  have hgw : Gr w W := (hg1.trans hg2).trans hg3
  have HG0 := Lib.hid (h0.trans hgw)
  have HE := Lib.hid (he.gr hgw)
  have HL := Lib.hid (hl.gr hgw)
  have HB0 : Hid (w0.heap.size ≤ W.heap.size ∧ w0.heap.size ≤ S ∧ w0.heap.size ≤ R ∧ R ≠ S) := Lib.hid (by
    have h1 := h0.size; have h2 := hgw.size
    exact ⟨by omega, by omega, by omega, by omega⟩)
  have HFT := Lib.hid hft
  have k0 : W.cell? ⟨S, 0, none⟩ = some (.int .i64 2) := by rw [cell_of_block hs]; rfl
  have hld : W.heap[D]? = some (.cells (decs t (.slice A n c) o g) 62 (0, 0)) := hb
  have HB := Lib.hid hb
  have HS := Lib.hid hs
  have HZ := Lib.hid hz
  rw [hW1] at hW2
  rw [hW2] at hW
  clear hg1 hg2 hg3 hb1 hs2 e1 e2 hW1 hW2 hb hs hz hgw h0 he hl hft
  have HCN := Lib.hid (fun w1 => counted_any t (.slice A n c) o g m w1)
  have v1 : W.cell? ⟨S, 1, none⟩ = some (.int .i64 m) := by rw [cell_of_block HS.out]; rfl
  go_enter Try.func23, Try.ntmps23
  go_upto_region 1 with (fail)
  change Code.wp Try.prog _ _ _ (((w.alloc (.cells (decs t (.slice A n c) o g) 62)).alloc (.cells (fsc 2 m (.slice A1 n1 c1) (.slice A2 n2 c2) has st top df) 38)).alloc (.cells (fsc 0 0 (.slice none 0 0) (.slice none 0 0) false 0 tg0 false) 38))
  rw [← hW, ← hR, ← hS, ← hD]
  clear hW hR hS hD
  go_wp2_with ((refine wpList_load_row rfl 62 (.tmp 2) rfl D rfl 62 (decs t (.slice A n c) o g) (0, 0) _ hld Try.underlying62 rfl dinfo ?_))
  refine (HCN.out _).mono ?_
  rintro e w2 ⟨rfl, g2⟩
  have hs2 := gr_obj g2 HS.out
  have q1 : w2.cell? ⟨S, 1, none⟩ = some (.int .i64 m) := by rw [cell_of_block hs2]; rfl
  have f1 := unfrozen_of_block hs2 1
  have HG2 := Lib.hid g2
  have HS2 := Lib.hid hs2
  clear v1 hld k0 g2 hs2
  go_upto_region 20 with (fail)
  obtain ⟨W4, hW4⟩ : ∃ X, X = w2.setCell ⟨S, 1, none⟩ (.int .i64 (cntZ o m)) := ⟨_, rfl⟩
  have hs4 : W4.heap[S]? = some (.cells (fsc 2 (cntZ o m) (.slice A1 n1 c1) (.slice A2 n2 c2) has st top df) 38 (0, 0)) := by rw [hW4]; exact set_obj (i := 1) HS2.out _
  have hz4 : W4.heap[R]? = some (.cells (fsc 0 0 (.slice none 0 0) (.slice none 0 0) false 0 tg0 false) 38 (0, 0)) := by rw [hW4]; exact set_obj_other (gr_obj HG2.out HZ.out) HB0.out.2.2.2 _
  have he4 : SO W4 w0.heap.size (.slice A1 n1 c1) E := by rw [hW4]; exact own_set_obj (HE.out.gr HG2.out) HS2.out (by decide) _
  have hl4 : GOw W4 w0.heap.size (.slice A2 n2 c2) L := by rw [hW4]; exact own_set_obj (HL.out.gr HG2.out) HS2.out (by decide) _
  have hg4 : Gr w0 W4 := by rw [hW4]; exact (HG0.out.trans HG2.out).setCell HB0.out.2.1 _
  rw [← hW4]
  clear hW4 q1 f1
  have HEW := Lib.hid (he4)
  have HLW := Lib.hid (hl4)
  have HGW := Lib.hid (hg4)
  go_wp2_with (first | (refine wpList_load_row rfl 38 (.tmp 3) rfl S rfl 38 (fsc 2 (cntZ o m) (.slice A1 n1 c1) (.slice A2 n2 c2) has st top df) (0, 0) _ hs4 Try.underlying38 rfl sinfo ?_) | (refine wpList_store_row rfl 38 (.tmp 4) (.tmp 83) rfl R (fsc 2 (cntZ o m) (.slice A1 n1 c1) (.slice A2 n2 c2) has st top df) rfl rfl 38 _ hz4 sinfo rfl (fsc_ones _ _ _ _ _ _ _ _ _ _ _ _) ?_))
  have HZF := Lib.hid (setRow_heap W4 R _ (fsc 2 (cntZ o m) (.slice A1 n1 c1) (.slice A2 n2 c2) has st top df) 38 _ hz4)
  have HF := Lib.hid (fin_rows ((fsc 2 (cntZ o m) (.slice A1 n1 c1) (.slice A2 n2 c2) has st top df)) hz4 HGW.out HB0.out.2.2.1 HEW.out HLW.out)
  clear hs4 hz4
  go_wp2_with fail
  exact bodyPost_ret (results_cell_row Try.results23 _ _ R 38 (fsc 2 (cntZ o m) (.slice A1 n1 c1) (.slice A2 n2 c2) has st top df) (0, 0) _ rfl HZF.out Try.underlying38 rfl sinfo) rfl ⟨_, rfl, ⟨_, _, rfl, HF.out.1, HF.out.2.1⟩, HF.out.2.2⟩
end Go.Proofs.Ytlihcjlonafohaa
