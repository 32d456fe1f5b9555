/- Texts Opn, TxO, joined. -/
import Derived.Test.YtlihcjlonafohaaG01
import Derived.Deep.Slices
import Derived.Deep.Fields
import Derived.ChangeSame
import Derived.SizedLaws
import Derived.OpenShut
import Derived.Test.YtlihcjlonafohaaG02
/- Arguments opened: rows of structs, and how long they are. -/
namespace Go.Proofs.Ytlihcjlonafohaa
open Go.ChangeShapes Go.WideShapes Go.RowKit Go.Deep

theorem list_of {α : Type} {R : Nat → α → Prop} : ∀ n, (∀ i, i < n → ∃ x, R i x) → ∃ L : List α, L.length = n ∧ ∀ j (hj : j < L.length), R j L[j]
  | 0, _ => ⟨[], rfl, fun j hj => absurd hj (by simp)⟩
  | n + 1, h => by
    obtain ⟨L, hl, hr⟩ := list_of n (fun i hi => h i (by omega))
    obtain ⟨x, hx⟩ := h n (Nat.lt_succ_self n)
    refine ⟨L ++ [x], by rw [List.length_append, hl]; rfl, fun j hj => ?_⟩
    rw [List.length_append, List.length_singleton, hl] at hj
    by_cases e : j < L.length
    · rw [List.getElem_append_left e]; exact hr j e
    · obtain rfl : j = n := by omega
      rw [List.getElem_append_right (by omega)]
      simp only [hl, Nat.sub_self, List.getElem_cons_zero]
      exact hx
theorem weightsAll_mem {H : Type} {P : Program} {e : TypeId} {d : DataW H} {l : List (DataW H)} (h : d ∈ l) {n : Nat} (hn : n ∈ DataW.weights P e d) : n ∈ DataW.weightsAll P e l := by
  induction l with
  | nil => cases h
  | cons x r ih =>
    simp only [DataW.weightsAll, List.mem_append]
    rcases List.mem_cons.1 h with rfl | h
    · exact .inl hn
    · exact .inr (ih h)
/-- A struct of one-cell fields among a row's elements. -/
theorem open_row {H : Type} {enc : TypeId × Value → H} {P : Program} {w : World} {base : Nat} {sp : Nat → Bool} {held : Bool} {e : TypeId} {fs : Array Field} {m k : Nat} {ad : Addr} {cs : List Value} {x : DataW H × List MemPlace}
    (he : P.underlying e = some (.struct fs)) (hone : oneCellFields P fs = true) (_hk : P.cellsOf e = k) (hc : w.cells? base ad k = some cs) (ht : DataW.trod enc P w base sp held m e cs = some x) :
    ∃ (ys : List (DataW H × List MemPlace)) (n : Nat), x.1 = .agg (ys.map (·.1)) ∧ ys.length = fs.size ∧
      ∀ j f, fs[j]? = some f → j < k → ∃ (v : Value) (y : DataW H × List MemPlace), w.cell? (ad.add j) = some v ∧ ys[j]? = some y ∧ DataW.trod enc P w base sp held n f.type [v] = some y := by
  obtain ⟨_, hl, hat⟩ := World.cells?_some hc
  obtain ⟨ys, n, _, hx, _, hyl, hf⟩ := DataW.trod_struct he ht
  refine ⟨ys, n, by rw [hx], hyl, fun j f hj hjk => ?_⟩
  obtain ⟨ho, hc1⟩ := hone_of hone j f hj
  have hjy : j < ys.length := by rw [hyl]; exact (Array.getElem?_eq_some_iff.1 hj).1
  have h1 := hf j f hj
  rw [ho, hc1, List.drop_eq_getElem_cons (show j < cs.length by omega), List.getElem?_eq_getElem hjy] at h1
  refine ⟨cs[j]'(by omega), ys[j], ?_, List.getElem?_eq_getElem hjy, h1⟩
  rw [hat j (by omega), List.getElem?_eq_getElem (by omega)]

/-- The first element's place says that the slice lies in cells. -/
theorem spot_of {w : World} {base k : Nat} {a : Addr} {len : Nat} {R : Nat → List Value → Prop} (hk : 0 < k) (hi : ∀ i, i < len → ∃ cs, w.cells? base (a.add (i * k)) k = some cs ∧ R i cs) (h0 : 0 < len) : a.spot = none := by
  obtain ⟨cs, hc, _⟩ := hi 0 h0
  obtain ⟨_, hl, hat⟩ := World.cells?_some hc
  have h := hat 0 hk
  rw [List.getElem?_eq_getElem (show 0 < cs.length by omega)] at h
  have := World.cell?_spot h
  simpa [Addr.add] using this
theorem reach_is : reachBytes = 140737488351232 := rfl
end Go.Proofs.Ytlihcjlonafohaa
/- The arguments of the laws of transactions: operations, transactions, lists of them: what they read as, and how long they are. -/
namespace Go.Proofs.Ytlihcjlonafohaa
open Go.ChangeShapes Go.WideShapes Go.RowKit Go.Deep

theorem cellsTOp : Try.prog.cellsOf 46 = 4 := by kernel_rfl
theorem cellsTx : Try.prog.cellsOf 44 = 12 := by kernel_rfl
theorem cellsTVec : Try.prog.cellsOf 27 = 8 := by kernel_rfl
theorem cellsTInt : Try.prog.cellsOf 3 = 1 := by kernel_rfl
theorem cellsTI64 : Try.prog.cellsOf 2 = 1 := by kernel_rfl
theorem cellsTU64 : Try.prog.cellsOf 25 = 1 := by kernel_rfl
theorem cellsTStr : Try.prog.cellsOf 9 = 1 := by kernel_rfl
theorem cellsTOps : Try.prog.cellsOf 42 = 1 := by kernel_rfl
theorem bytesTOp : Try.prog.bytesOf 46 = 48 := by kernel_rfl
theorem bytesTx : Try.prog.bytesOf 44 = 112 := by kernel_rfl
theorem list_of8 {α : Type} (l : List α) (h : l.length = 8) : ∃ a b c d e f g i, l = [a, b, c, d, e, f, g, i] := by
  match l, h with
  | [a, b, c, d, e, f, g, i], _ => exact ⟨a, b, c, d, e, f, g, i, rfl⟩
theorem list_of12 {α : Type} (l : List α) (h : l.length = 12) : ∃ a b c d e f g i j k m n, l = [a, b, c, d, e, f, g, i, j, k, m, n] := by
  match l, h with
  | [a, b, c, d, e, f, g, i, j, k, m, n], _ => exact ⟨a, b, c, d, e, f, g, i, j, k, m, n, rfl⟩
/-- What an operation's parts may be. -/
def FitTO (o : TO) : Prop := (-9223372036854775808 ≤ o.kind ∧ o.kind ≤ 9223372036854775807) ∧ (-9223372036854775808 ≤ o.n ∧ o.n ≤ 9223372036854775807) ∧ o.key.size ≤ 281474976710656 ∧ o.elem.size ≤ 281474976710656
/-- What a transaction's parts may be. -/
structure FitX (t : TX) : Prop where
  origin : -9223372036854775808 ≤ t.origin ∧ t.origin ≤ 9223372036854775807
  seq : t.seq < 18446744073709551616
  stamp : t.stamp < 18446744073709551616
  deps : ∀ k, k < 8 → t.deps k < 18446744073709551616
  ops : ∀ o ∈ t.ops, FitTO o
  len : (t.ops.length + 1) * 48 ≤ 140737488355328

section
variable {H : Type} {enc : TypeId × Value → H} {W : World} {base : Nat} {v : Value} {d : DataW H} {p : List MemPlace}
set_option maxRecDepth 100000 in
theorem trod_top {B : Nat} {sp : Nat → Bool} {hd : Bool} {m : Nat} {cs : List Value} {x : DataW H × List MemPlace} (hl : cs.length = 4) (hf : DataW.trod enc Try.prog W B sp hd m 46 cs = some x) (hw : ∀ q ∈ DataW.weights Try.prog 46 x.1, q ≤ reachBytes) :
    ∃ o : TO, cs = tocell o ∧ FitTO o := by
  obtain ⟨ys, n, _, hx, _, hyl, hg⟩ := DataW.trod_struct Try.underlying46 hf
  match cs, hl with
  | [c0, c1, c2, c3], _ =>
    match ys, hyl with
    | [y0, y1, y2, y3], _ =>
      have h0 := hg 0 ({ name := "Kind", type := 3, offset := 0, embedded := false, tag := "", pkgPath := "", byteOffset := 0 } : Field) rfl
      have h1 := hg 1 ({ name := "Key", type := 9, offset := 1, embedded := false, tag := "", pkgPath := "", byteOffset := 8 } : Field) rfl
      have h2 := hg 2 ({ name := "Elem", type := 9, offset := 2, embedded := false, tag := "", pkgPath := "", byteOffset := 24 } : Field) rfl
      have h3 := hg 3 ({ name := "N", type := 2, offset := 3, embedded := false, tag := "", pkgPath := "", byteOffset := 40 } : Field) rfl
      have h0' : DataW.trod enc Try.prog W B sp hd n 3 [c0] = some y0 := by simpa [cellsTInt] using h0
      have h1' : DataW.trod enc Try.prog W B sp hd n 9 [c1] = some y1 := by simpa [cellsTStr] using h1
      have h2' : DataW.trod enc Try.prog W B sp hd n 9 [c2] = some y2 := by simpa [cellsTStr] using h2
      have h3' : DataW.trod enc Try.prog W B sp hd n 2 [c3] = some y3 := by simpa [cellsTI64] using h3
      simp only [List.map_cons, List.map_nil] at hx
      obtain ⟨z0, hz0, _, w0⟩ := DataW.trod_int Try.underlying3 h0'
      obtain ⟨s1, hz1, hy1, _⟩ := DataW.trod_string Try.underlying9 h1'
      obtain ⟨s2, hz2, hy2, _⟩ := DataW.trod_string Try.underlying9 h2'
      obtain ⟨z3, hz3, _, w3⟩ := DataW.trod_int Try.underlying2 h3'
      injection hz0 with hz0
      injection hz1 with hz1
      injection hz2 with hz2
      injection hz3 with hz3
      subst hz0 hz1 hz2 hz3
      have b0 := bounds_i64 w0
      have b3 := bounds_i64 w3
      have hq1 := hw s1.data.toList.length (by
        rw [hx]
        simp only [DataW.weights, Try.underlying46]
        refine DataW.weights_mem_each (j := 1) (t := 9) (d := .lit (.string s1.data.toList)) rfl ?_ _ ?_
        · rw [hy1]; rfl
        · simp [DataW.weights])
      have hq2 := hw s2.data.toList.length (by
        rw [hx]
        simp only [DataW.weights, Try.underlying46]
        refine DataW.weights_mem_each (j := 2) (t := 9) (d := .lit (.string s2.data.toList)) rfl ?_ _ ?_
        · rw [hy2]; rfl
        · simp [DataW.weights])
      rw [Array.length_toList, reach_is] at hq1 hq2
      exact ⟨⟨z0, s1, s2, z3⟩, rfl, ⟨by simp only []; omega, by simp only []; omega⟩, ⟨by simp only []; omega, by simp only []; omega⟩, by change s1.size ≤ _ at hq1; simp only []; omega, by change s2.size ≤ _ at hq2; simp only []; omega⟩
theorem cells_at {w : World} {B : Nat} {a : Addr} {k : Nat} {cs : List Value} (hc : w.cells? B a k = some cs) (j : Nat) (hj : j < k) : w.cell? (a.add j) = cs[j]? := by
  obtain ⟨_, hl, hat⟩ := World.cells?_some hc
  exact hat j hj
set_option maxRecDepth 100000 in
/-- A slice of operations in a cell. -/
theorem trod_tops {m : Nat} {c : Value} {x : DataW H × List MemPlace} (hf : DataW.trod enc Try.prog W 0 (fun _ => true) true m 42 [c] = some x) (hw : ∀ q ∈ DataW.weights Try.prog 42 x.1, q ≤ reachBytes) :
    ∃ L : List TO, TOV W c L ∧ (∀ o ∈ L, FitTO o) ∧ (L.length + 1) * 48 ≤ 140737488355328 := by
  rcases open_slice Try.underlying42 hf with ⟨hcs, _⟩ | ⟨a, len, cap, m2, n, D, Pl, hcs, _, hl, hm, hmm, hx, hi⟩
  · injection hcs with hcs
    rw [hcs]
    exact ⟨[], TOV.nil W, (fun o ho => by cases ho), by decide⟩
  · injection hcs with hcs
    rw [hcs]
    simp only [if_true] at hmm
    subst hmm
    rw [cellsTOp] at hi
    rw [hx] at hw
    have hle := hw ((((List.range len).map D).length + ((List.range (m2 - len)).map fun j => D (len + j)).length) * Try.prog.bytesOf 46) (by
      simp only [DataW.weights, Try.underlying42]; exact List.mem_cons_self ..)
    rw [bytesTOp, List.length_map, List.length_range, reach_is] at hle
    have hel : ∀ i, i < len → ∀ q ∈ DataW.weights Try.prog 46 (D i), q ≤ reachBytes := fun i hil q hq => hw q (by
      simp only [DataW.weights, Try.underlying42]
      exact List.mem_cons_of_mem _ (List.mem_append.2 (.inl (weightsAll_mem (List.mem_map_of_mem (List.mem_range.2 hil)) hq))))
    have hsp : 0 < len → a.spot = none := fun h0 => spot_of (by decide) hi (show 0 < m2 by omega)
    have hex : ∀ i, i < len → ∃ o : TO, (∃ b off, a = ⟨b, off, none⟩ ∧ TCell W b (off + i * 4) o) ∧ FitTO o := fun i hil => by
      obtain ⟨cs', hc, ht⟩ := hi i (by omega)
      obtain ⟨_, hl4, _⟩ := World.cells?_some hc
      obtain ⟨o, rfl, ho⟩ := trod_top hl4 ht (hel i hil)
      have c0 := cells_at hc 0 (by decide)
      have c1 := cells_at hc 1 (by decide)
      have c2 := cells_at hc 2 (by decide)
      have c3 := cells_at hc 3 (by decide)
      obtain ⟨b, off, spot⟩ := a
      have hspot : spot = none := hsp (by omega)
      subst hspot
      rw [add_plain, add_plain] at c0 c1 c2 c3
      exact ⟨o, ⟨b, off, rfl, c0, c1, c2, c3⟩, ho⟩
    obtain ⟨L, hL, hall⟩ := list_of len hex
    refine ⟨L, ⟨some a, m2, by rw [hL], by omega, ⟨hm, fun h => by cases h⟩, fun j hj => ?_⟩, fun o ho => ?_, by rw [hL]; omega⟩
    · obtain ⟨⟨b, off, ha, hc⟩, _⟩ := hall j hj
      exact ⟨b, off, by rw [ha], hc⟩
    · obtain ⟨j, hj, rfl⟩ := List.mem_iff_getElem.1 ho
      exact (hall j hj).2
set_option maxRecDepth 100000 in
/-- A transaction's cells. -/
theorem trod_tx {m : Nat} {cs : List Value} {x : DataW H × List MemPlace} (hl : cs.length = 12) (hf : DataW.trod enc Try.prog W 0 (fun _ => true) true m 44 cs = some x) (hw : ∀ q ∈ DataW.weights Try.prog 44 x.1, q ≤ reachBytes) :
    ∃ (t : TX) (u : Value), cs = (tcs t u).toList ∧ TOV W u t.ops ∧ FitX t := by
  obtain ⟨ys, n, _, hx, _, hyl, hg⟩ := DataW.trod_struct Try.underlying44 hf
  obtain ⟨c0, c1, c2, d0, d1, d2, d3, d4, d5, d6, d7, c4, rfl⟩ := list_of12 cs hl
  match ys, hyl with
  | [y0, y1, y2, y3, y4], _ =>
    have h0 := hg 0 ({ name := "Origin", type := 3, offset := 0, embedded := false, tag := "", pkgPath := "", byteOffset := 0 } : Field) rfl
    have h1 := hg 1 ({ name := "Seq", type := 25, offset := 1, embedded := false, tag := "", pkgPath := "", byteOffset := 8 } : Field) rfl
    have h2 := hg 2 ({ name := "Stamp", type := 25, offset := 2, embedded := false, tag := "", pkgPath := "", byteOffset := 16 } : Field) rfl
    have h3 := hg 3 ({ name := "Deps", type := 27, offset := 3, embedded := false, tag := "", pkgPath := "", byteOffset := 24 } : Field) rfl
    have h4 := hg 4 ({ name := "Ops", type := 42, offset := 11, embedded := false, tag := "", pkgPath := "", byteOffset := 88 } : Field) rfl
    have h0' : DataW.trod enc Try.prog W 0 (fun _ => true) true n 3 [c0] = some y0 := by simpa [cellsTInt] using h0
    have h1' : DataW.trod enc Try.prog W 0 (fun _ => true) true n 25 [c1] = some y1 := by simpa [cellsTU64] using h1
    have h2' : DataW.trod enc Try.prog W 0 (fun _ => true) true n 25 [c2] = some y2 := by simpa [cellsTU64] using h2
    have h3' : DataW.trod enc Try.prog W 0 (fun _ => true) true n 27 [d0, d1, d2, d3, d4, d5, d6, d7] = some y3 := by simpa [cellsTVec] using h3
    have h4' : DataW.trod enc Try.prog W 0 (fun _ => true) true n 42 [c4] = some y4 := by simpa [cellsTOps] using h4
    simp only [List.map_cons, List.map_nil] at hx
    have one : ∀ (m : Nat) (c : Value) (y : DataW H × List MemPlace), DataW.trod enc Try.prog W 0 (fun _ => true) true m 25 [c] = some y → ∃ n : Nat, c = .int .u64 (n : Int) ∧ n < 18446744073709551616 := fun m c y hy => by
      obtain ⟨x, e, _, w⟩ := DataW.trod_int Try.underlying25 hy
      have b := bounds_u64 w
      obtain ⟨n, rfl⟩ := Int.eq_ofNat_of_zero_le b.1
      exact ⟨n, by simpa using e, by omega⟩
    obtain ⟨z0, hz0, _, w0⟩ := DataW.trod_int Try.underlying3 h0'
    injection hz0 with hz0
    subst hz0
    have b0 := bounds_i64 w0
    obtain ⟨sq, rfl, hsq⟩ := one _ _ _ h1'
    obtain ⟨st, rfl, hst⟩ := one _ _ _ h2'
    obtain ⟨xs, m', rfl, hx2, hl2, hxl, hall⟩ := DataW.trod_array Try.underlying27 h3'
    obtain ⟨x0, x1, x2, x3, x4, x5, x6, x7, rfl⟩ := list_of8 xs hxl
    rw [cellsTU64] at hall
    obtain ⟨n0, rfl, e0⟩ := one _ d0 x0 (hall 0 (by decide))
    obtain ⟨n1, rfl, e1⟩ := one _ d1 x1 (hall 1 (by decide))
    obtain ⟨n2, rfl, e2⟩ := one _ d2 x2 (hall 2 (by decide))
    obtain ⟨n3, rfl, e3⟩ := one _ d3 x3 (hall 3 (by decide))
    obtain ⟨n4, rfl, e4⟩ := one _ d4 x4 (hall 4 (by decide))
    obtain ⟨n5, rfl, e5⟩ := one _ d5 x5 (hall 5 (by decide))
    obtain ⟨n6, rfl, e6⟩ := one _ d6 x6 (hall 6 (by decide))
    obtain ⟨n7, rfl, e7⟩ := one _ d7 x7 (hall 7 (by decide))
    obtain ⟨L, hv, ho, hlen⟩ := trod_tops h4' (fun q hq => hw q (by
      rw [hx]
      simp only [DataW.weights, Try.underlying44]
      exact DataW.weights_mem_each (j := 4) (t := 42) (d := y4.1) rfl rfl q hq))
    refine ⟨⟨z0, sq, st, fun k => match k with | 0 => n0 | 1 => n1 | 2 => n2 | 3 => n3 | 4 => n4 | 5 => n5 | 6 => n6 | _ => n7, L⟩, c4, rfl, hv, ⟨⟨by simp only []; omega, by simp only []; omega⟩, hsq, hst, fun k hk => ?_, ho, hlen⟩⟩
    match k, hk with
    | 0, _ => exact e0
    | 1, _ => exact e1
    | 2, _ => exact e2
    | 3, _ => exact e3
    | 4, _ => exact e4
    | 5, _ => exact e5
    | 6, _ => exact e6
    | 7, _ => exact e7
set_option maxRecDepth 100000 in
/-- An argument that is an operation. -/
theorem open_top (hval : Value.okWide Try.prog W .any base 46 v) (h : DataW.Trod enc Try.prog W 0 (fun _ => true) true 46 v d p) (hw : ∀ q ∈ DataW.weights Try.prog 46 d, q ≤ reachBytes) :
    ∃ o : TO, v = .agg (tovs o) ∧ FitTO o := by
  obtain ⟨cs, rfl, hsz⟩ := okWide_struct Try.underlying46 hval
  rw [cellsTOp] at hsz
  obtain ⟨l⟩ := cs
  obtain ⟨fuel, hf⟩ := h
  obtain ⟨o, ho, hfo⟩ := trod_top (cs := l) (x := (d, p)) hsz (by simpa [Value.cells] using hf) hw
  refine ⟨o, ?_, hfo⟩
  rw [ho]
  rfl
set_option maxRecDepth 100000 in
/-- An argument that is a transaction. -/
theorem open_tx (hval : Value.okWide Try.prog W .any base 44 v) (h : DataW.Trod enc Try.prog W 0 (fun _ => true) true 44 v d p) (hw : ∀ q ∈ DataW.weights Try.prog 44 d, q ≤ reachBytes) :
    ∃ (t : TX) (u : Value), v = .agg (tcs t u) ∧ TOV W u t.ops ∧ FitX t := by
  obtain ⟨cs, rfl, hsz⟩ := okWide_struct Try.underlying44 hval
  rw [cellsTx] at hsz
  obtain ⟨l⟩ := cs
  obtain ⟨fuel, hf⟩ := h
  obtain ⟨t, u, ht, hv, hft⟩ := trod_tx (cs := l) (x := (d, p)) hsz (by simpa [Value.cells] using hf) hw
  refine ⟨t, u, ?_, hv, hft⟩
  rw [ht]
set_option maxRecDepth 100000 in
/-- A slice of transactions in a cell. -/
theorem trod_txs {m : Nat} {c : Value} {x : DataW H × List MemPlace} (hf : DataW.trod enc Try.prog W 0 (fun _ => true) true m 22 [c] = some x) (hw : ∀ q ∈ DataW.weights Try.prog 22 x.1, q ≤ reachBytes) :
    ∃ L : List TX, XV W c L ∧ (∀ t ∈ L, FitX t) ∧ (L.length + 1) * 112 ≤ 140737488355328 := by
  rcases open_slice Try.underlying22 hf with ⟨hcs, _⟩ | ⟨a, len, cap, m2, n, D, Pl, hcs, _, hl, hm, hmm, hx, hi⟩
  · injection hcs with hcs
    rw [hcs]
    exact ⟨[], ⟨none, 0, rfl, Nat.le_refl _, ⟨Nat.zero_le _, fun _ => rfl⟩, fun j hj => absurd hj (by simp)⟩, (fun o ho => by cases ho), by decide⟩
  · injection hcs with hcs
    rw [hcs]
    simp only [if_true] at hmm
    subst hmm
    rw [cellsTx] at hi
    rw [hx] at hw
    have hle := hw ((((List.range len).map D).length + ((List.range (m2 - len)).map fun j => D (len + j)).length) * Try.prog.bytesOf 44) (by
      simp only [DataW.weights, Try.underlying22]; exact List.mem_cons_self ..)
    rw [bytesTx, List.length_map, List.length_range, reach_is] at hle
    have hel : ∀ i, i < len → ∀ q ∈ DataW.weights Try.prog 44 (D i), q ≤ reachBytes := fun i hil q hq => hw q (by
      simp only [DataW.weights, Try.underlying22]
      exact List.mem_cons_of_mem _ (List.mem_append.2 (.inl (weightsAll_mem (List.mem_map_of_mem (List.mem_range.2 hil)) hq))))
    have hsp : 0 < len → a.spot = none := fun h0 => spot_of (by decide) hi (show 0 < m2 by omega)
    have hex : ∀ i, i < len → ∃ t : TX, (∃ b off, a = ⟨b, off, none⟩ ∧ XCell W b (off + i * 12) t) ∧ FitX t := fun i hil => by
      obtain ⟨cs', hc, ht⟩ := hi i (by omega)
      obtain ⟨_, hl12, _⟩ := World.cells?_some hc
      obtain ⟨t, u, rfl, hv, hft⟩ := trod_tx hl12 ht (hel i hil)
      have hat := fun j hj => cells_at hc j hj
      obtain ⟨b, off, spot⟩ := a
      have hspot : spot = none := hsp (by omega)
      subst hspot
      have at2 : ∀ j, j < 12 → W.cell? ⟨b, off + i * 12 + j, none⟩ = (tcs t u).toList[j]? := fun j hj => by
        have := hat j hj
        rw [add_plain, add_plain] at this
        exact this
      exact ⟨t, ⟨b, off, rfl, u, hv, at2 0 (by decide), at2 1 (by decide), at2 2 (by decide), at2 3 (by decide), at2 4 (by decide), at2 5 (by decide), at2 6 (by decide), at2 7 (by decide), at2 8 (by decide), at2 9 (by decide), at2 10 (by decide), at2 11 (by decide)⟩, hft⟩
    obtain ⟨L, hL, hall⟩ := list_of len hex
    refine ⟨L, ⟨some a, m2, by rw [hL], by omega, ⟨hm, fun h => by cases h⟩, fun j hj => ?_⟩, fun o ho => ?_, by rw [hL]; omega⟩
    · obtain ⟨⟨b, off, ha, hc⟩, _⟩ := hall j hj
      exact ⟨b, off, by rw [ha], hc⟩
    · obtain ⟨j, hj, rfl⟩ := List.mem_iff_getElem.1 ho
      exact (hall j hj).2
set_option maxRecDepth 100000 in
/-- An argument that is a slice of transactions. -/
theorem open_txs (hval : Value.okWide Try.prog W .any base 22 v) (h : DataW.Trod enc Try.prog W 0 (fun _ => true) true 22 v d p) (hw : ∀ q ∈ DataW.weights Try.prog 22 d, q ≤ reachBytes) :
    ∃ L : List TX, XV W v L ∧ (∀ t ∈ L, FitX t) ∧ (L.length + 1) * 112 ≤ 140737488355328 := by
  obtain ⟨a0, len0, cap0, rfl⟩ := okWide_slice Try.underlying22 hval
  obtain ⟨fuel, hf⟩ := h
  exact trod_txs (x := (d, p)) (by simpa [Value.cells] using hf) hw
end
end Go.Proofs.Ytlihcjlonafohaa
