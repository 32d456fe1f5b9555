/- The arguments of the laws of transactions: operations, transactions, lists of them: what they read as, and how long they are. -/
import Derived.Test.YtioldhhnkeakcaaDoorTxC
import Derived.Test.YtioldhhnkeakcaaDoorOpn
namespace Go.Proofs.YtioldhhnkeakcaaDoor
open Go.ChangeShapes Go.WideShapes Go.RowKit Go.Deep

theorem cellsTOp : Tryd.prog.cellsOf 30 = 4 := by kernel_rfl
theorem cellsTx : Tryd.prog.cellsOf 47 = 12 := by kernel_rfl
theorem cellsTVec : Tryd.prog.cellsOf 45 = 8 := by kernel_rfl
theorem cellsTInt : Tryd.prog.cellsOf 3 = 1 := by kernel_rfl
theorem cellsTI64 : Tryd.prog.cellsOf 2 = 1 := by kernel_rfl
theorem cellsTU64 : Tryd.prog.cellsOf 43 = 1 := by kernel_rfl
theorem cellsTStr : Tryd.prog.cellsOf 9 = 1 := by kernel_rfl
theorem cellsTOps : Tryd.prog.cellsOf 23 = 1 := by kernel_rfl
theorem bytesTOp : Tryd.prog.bytesOf 30 = 48 := by kernel_rfl
theorem bytesTx : Tryd.prog.bytesOf 47 = 112 := by kernel_rfl
theorem list_of8 {α : Type} (l : List α) (h : l.length = 8) : ∃ a b c d e f g i, l = [a, b, c, d, e, f, g, i] := by
  match l, h with
  | [a, b, c, d, e, f, g, i], _ => exact ⟨a, b, c, d, e, f, g, i, rfl⟩
theorem list_of12 {α : Type} (l : List α) (h : l.length = 12) : ∃ a b c d e f g i j k m n, l = [a, b, c, d, e, f, g, i, j, k, m, n] := by
  match l, h with
  | [a, b, c, d, e, f, g, i, j, k, m, n], _ => exact ⟨a, b, c, d, e, f, g, i, j, k, m, n, rfl⟩
/-- What an operation's parts may be. -/
def FitTO (o : TO) : Prop := (-9223372036854775808 ≤ o.kind ∧ o.kind ≤ 9223372036854775807) ∧ (-9223372036854775808 ≤ o.n ∧ o.n ≤ 9223372036854775807) ∧ o.key.size ≤ 281474976710656 ∧ o.elem.size ≤ 281474976710656
/-- What a transaction's parts may be. -/
structure FitX (t : TX) : Prop where
  origin : -9223372036854775808 ≤ t.origin ∧ t.origin ≤ 9223372036854775807
  seq : t.seq < 18446744073709551616
  stamp : t.stamp < 18446744073709551616
  deps : ∀ k, k < 8 → t.deps k < 18446744073709551616
  ops : ∀ o ∈ t.ops, FitTO o
  len : (t.ops.length + 1) * 48 ≤ 140737488355328

section
variable {H : Type} {enc : TypeId × Value → H} {W : World} {base : Nat} {v : Value} {d : DataW H} {p : List MemPlace}
set_option maxRecDepth 100000 in
theorem trod_top {B : Nat} {sp : Nat → Bool} {hd : Bool} {m : Nat} {cs : List Value} {x : DataW H × List MemPlace} (hl : cs.length = 4) (hf : DataW.trod enc Tryd.prog W B sp hd m 30 cs = some x) (hw : ∀ q ∈ DataW.weights Tryd.prog 30 x.1, q ≤ reachBytes) :
    ∃ o : TO, cs = tocell o ∧ FitTO o := by
  obtain ⟨ys, n, _, hx, _, hyl, hg⟩ := DataW.trod_struct Tryd.underlying30 hf
  match cs, hl with
  | [c0, c1, c2, c3], _ =>
    match ys, hyl with
    | [y0, y1, y2, y3], _ =>
      have h0 := hg 0 ({ name := "Kind", type := 3, offset := 0, embedded := false, tag := "", pkgPath := "", byteOffset := 0 } : Field) rfl
      have h1 := hg 1 ({ name := "Key", type := 9, offset := 1, embedded := false, tag := "", pkgPath := "", byteOffset := 8 } : Field) rfl
      have h2 := hg 2 ({ name := "Elem", type := 9, offset := 2, embedded := false, tag := "", pkgPath := "", byteOffset := 24 } : Field) rfl
      have h3 := hg 3 ({ name := "N", type := 2, offset := 3, embedded := false, tag := "", pkgPath := "", byteOffset := 40 } : Field) rfl
      have h0' : DataW.trod enc Tryd.prog W B sp hd n 3 [c0] = some y0 := by simpa [cellsTInt] using h0
      have h1' : DataW.trod enc Tryd.prog W B sp hd n 9 [c1] = some y1 := by simpa [cellsTStr] using h1
      have h2' : DataW.trod enc Tryd.prog W B sp hd n 9 [c2] = some y2 := by simpa [cellsTStr] using h2
      have h3' : DataW.trod enc Tryd.prog W B sp hd n 2 [c3] = some y3 := by simpa [cellsTI64] using h3
      simp only [List.map_cons, List.map_nil] at hx
      obtain ⟨z0, hz0, _, w0⟩ := DataW.trod_int Tryd.underlying3 h0'
      obtain ⟨s1, hz1, hy1, _⟩ := DataW.trod_string Tryd.underlying9 h1'
      obtain ⟨s2, hz2, hy2, _⟩ := DataW.trod_string Tryd.underlying9 h2'
      obtain ⟨z3, hz3, _, w3⟩ := DataW.trod_int Tryd.underlying2 h3'
      injection hz0 with hz0
      injection hz1 with hz1
      injection hz2 with hz2
      injection hz3 with hz3
      subst hz0 hz1 hz2 hz3
      have b0 := bounds_i64 w0
      have b3 := bounds_i64 w3
      have hq1 := hw s1.data.toList.length (by
        rw [hx]
        simp only [DataW.weights, Tryd.underlying30]
        refine DataW.weights_mem_each (j := 1) (t := 9) (d := .lit (.string s1.data.toList)) rfl ?_ _ ?_
        · rw [hy1]; rfl
        · simp [DataW.weights])
      have hq2 := hw s2.data.toList.length (by
        rw [hx]
        simp only [DataW.weights, Tryd.underlying30]
        refine DataW.weights_mem_each (j := 2) (t := 9) (d := .lit (.string s2.data.toList)) rfl ?_ _ ?_
        · rw [hy2]; rfl
        · simp [DataW.weights])
      rw [Array.length_toList, reach_is] at hq1 hq2
      exact ⟨⟨z0, s1, s2, z3⟩, rfl, ⟨by simp only []; omega, by simp only []; omega⟩, ⟨by simp only []; omega, by simp only []; omega⟩, by change s1.size ≤ _ at hq1; simp only []; omega, by change s2.size ≤ _ at hq2; simp only []; omega⟩
theorem cells_at {w : World} {B : Nat} {a : Addr} {k : Nat} {cs : List Value} (hc : w.cells? B a k = some cs) (j : Nat) (hj : j < k) : w.cell? (a.add j) = cs[j]? := by
  obtain ⟨_, hl, hat⟩ := World.cells?_some hc
  exact hat j hj
set_option maxRecDepth 100000 in
/-- A slice of operations in a cell. -/
theorem trod_tops {m : Nat} {c : Value} {x : DataW H × List MemPlace} (hf : DataW.trod enc Tryd.prog W 0 (fun _ => true) true m 23 [c] = some x) (hw : ∀ q ∈ DataW.weights Tryd.prog 23 x.1, q ≤ reachBytes) :
    ∃ L : List TO, TOV W c L ∧ (∀ o ∈ L, FitTO o) ∧ (L.length + 1) * 48 ≤ 140737488355328 := by
  rcases open_slice Tryd.underlying23 hf with ⟨hcs, _⟩ | ⟨a, len, cap, m2, n, D, Pl, hcs, _, hl, hm, hmm, hx, hi⟩
  · injection hcs with hcs
    rw [hcs]
    exact ⟨[], TOV.nil W, (fun o ho => by cases ho), by decide⟩
  · injection hcs with hcs
    rw [hcs]
    simp only [if_true] at hmm
    subst hmm
    rw [cellsTOp] at hi
    rw [hx] at hw
    have hle := hw ((((List.range len).map D).length + ((List.range (m2 - len)).map fun j => D (len + j)).length) * Tryd.prog.bytesOf 30) (by
      simp only [DataW.weights, Tryd.underlying23]; exact List.mem_cons_self ..)
    rw [bytesTOp, List.length_map, List.length_range, reach_is] at hle
    have hel : ∀ i, i < len → ∀ q ∈ DataW.weights Tryd.prog 30 (D i), q ≤ reachBytes := fun i hil q hq => hw q (by
      simp only [DataW.weights, Tryd.underlying23]
      exact List.mem_cons_of_mem _ (List.mem_append.2 (.inl (weightsAll_mem (List.mem_map_of_mem (List.mem_range.2 hil)) hq))))
    have hsp : 0 < len → a.spot = none := fun h0 => spot_of (by decide) hi (show 0 < m2 by omega)
    have hex : ∀ i, i < len → ∃ o : TO, (∃ b off, a = ⟨b, off, none⟩ ∧ TCell W b (off + i * 4) o) ∧ FitTO o := fun i hil => by
      obtain ⟨cs', hc, ht⟩ := hi i (by omega)
      obtain ⟨_, hl4, _⟩ := World.cells?_some hc
      obtain ⟨o, rfl, ho⟩ := trod_top hl4 ht (hel i hil)
      have c0 := cells_at hc 0 (by decide)
      have c1 := cells_at hc 1 (by decide)
      have c2 := cells_at hc 2 (by decide)
      have c3 := cells_at hc 3 (by decide)
      obtain ⟨b, off, spot⟩ := a
      have hspot : spot = none := hsp (by omega)
      subst hspot
      rw [add_plain, add_plain] at c0 c1 c2 c3
      exact ⟨o, ⟨b, off, rfl, c0, c1, c2, c3⟩, ho⟩
    obtain ⟨L, hL, hall⟩ := list_of len hex
    refine ⟨L, ⟨some a, m2, by rw [hL], by omega, ⟨hm, fun h => by cases h⟩, fun j hj => ?_⟩, fun o ho => ?_, by rw [hL]; omega⟩
    · obtain ⟨⟨b, off, ha, hc⟩, _⟩ := hall j hj
      exact ⟨b, off, by rw [ha], hc⟩
    · obtain ⟨j, hj, rfl⟩ := List.mem_iff_getElem.1 ho
      exact (hall j hj).2
set_option maxRecDepth 100000 in
/-- A transaction's cells. -/
theorem trod_tx {m : Nat} {cs : List Value} {x : DataW H × List MemPlace} (hl : cs.length = 12) (hf : DataW.trod enc Tryd.prog W 0 (fun _ => true) true m 47 cs = some x) (hw : ∀ q ∈ DataW.weights Tryd.prog 47 x.1, q ≤ reachBytes) :
    ∃ (t : TX) (u : Value), cs = (tcs t u).toList ∧ TOV W u t.ops ∧ FitX t := by
  obtain ⟨ys, n, _, hx, _, hyl, hg⟩ := DataW.trod_struct Tryd.underlying47 hf
  obtain ⟨c0, c1, c2, d0, d1, d2, d3, d4, d5, d6, d7, c4, rfl⟩ := list_of12 cs hl
  match ys, hyl with
  | [y0, y1, y2, y3, y4], _ =>
    have h0 := hg 0 ({ name := "Origin", type := 3, offset := 0, embedded := false, tag := "", pkgPath := "", byteOffset := 0 } : Field) rfl
    have h1 := hg 1 ({ name := "Seq", type := 43, offset := 1, embedded := false, tag := "", pkgPath := "", byteOffset := 8 } : Field) rfl
    have h2 := hg 2 ({ name := "Stamp", type := 43, offset := 2, embedded := false, tag := "", pkgPath := "", byteOffset := 16 } : Field) rfl
    have h3 := hg 3 ({ name := "Deps", type := 45, offset := 3, embedded := false, tag := "", pkgPath := "", byteOffset := 24 } : Field) rfl
    have h4 := hg 4 ({ name := "Ops", type := 23, offset := 11, embedded := false, tag := "", pkgPath := "", byteOffset := 88 } : Field) rfl
    have h0' : DataW.trod enc Tryd.prog W 0 (fun _ => true) true n 3 [c0] = some y0 := by simpa [cellsTInt] using h0
    have h1' : DataW.trod enc Tryd.prog W 0 (fun _ => true) true n 43 [c1] = some y1 := by simpa [cellsTU64] using h1
    have h2' : DataW.trod enc Tryd.prog W 0 (fun _ => true) true n 43 [c2] = some y2 := by simpa [cellsTU64] using h2
    have h3' : DataW.trod enc Tryd.prog W 0 (fun _ => true) true n 45 [d0, d1, d2, d3, d4, d5, d6, d7] = some y3 := by simpa [cellsTVec] using h3
    have h4' : DataW.trod enc Tryd.prog W 0 (fun _ => true) true n 23 [c4] = some y4 := by simpa [cellsTOps] using h4
    simp only [List.map_cons, List.map_nil] at hx
    have one : ∀ (m : Nat) (c : Value) (y : DataW H × List MemPlace), DataW.trod enc Tryd.prog W 0 (fun _ => true) true m 43 [c] = some y → ∃ n : Nat, c = .int .u64 (n : Int) ∧ n < 18446744073709551616 := fun m c y hy => by
      obtain ⟨x, e, _, w⟩ := DataW.trod_int Tryd.underlying43 hy
      have b := bounds_u64 w
      obtain ⟨n, rfl⟩ := Int.eq_ofNat_of_zero_le b.1
      exact ⟨n, by simpa using e, by omega⟩
    obtain ⟨z0, hz0, _, w0⟩ := DataW.trod_int Tryd.underlying3 h0'
    injection hz0 with hz0
    subst hz0
    have b0 := bounds_i64 w0
    obtain ⟨sq, rfl, hsq⟩ := one _ _ _ h1'
    obtain ⟨st, rfl, hst⟩ := one _ _ _ h2'
    obtain ⟨xs, m', rfl, hx2, hl2, hxl, hall⟩ := DataW.trod_array Tryd.underlying45 h3'
    obtain ⟨x0, x1, x2, x3, x4, x5, x6, x7, rfl⟩ := list_of8 xs hxl
    rw [cellsTU64] at hall
    obtain ⟨n0, rfl, e0⟩ := one _ d0 x0 (hall 0 (by decide))
    obtain ⟨n1, rfl, e1⟩ := one _ d1 x1 (hall 1 (by decide))
    obtain ⟨n2, rfl, e2⟩ := one _ d2 x2 (hall 2 (by decide))
    obtain ⟨n3, rfl, e3⟩ := one _ d3 x3 (hall 3 (by decide))
    obtain ⟨n4, rfl, e4⟩ := one _ d4 x4 (hall 4 (by decide))
    obtain ⟨n5, rfl, e5⟩ := one _ d5 x5 (hall 5 (by decide))
    obtain ⟨n6, rfl, e6⟩ := one _ d6 x6 (hall 6 (by decide))
    obtain ⟨n7, rfl, e7⟩ := one _ d7 x7 (hall 7 (by decide))
    obtain ⟨L, hv, ho, hlen⟩ := trod_tops h4' (fun q hq => hw q (by
      rw [hx]
      simp only [DataW.weights, Tryd.underlying47]
      exact DataW.weights_mem_each (j := 4) (t := 23) (d := y4.1) rfl rfl q hq))
    refine ⟨⟨z0, sq, st, fun k => match k with | 0 => n0 | 1 => n1 | 2 => n2 | 3 => n3 | 4 => n4 | 5 => n5 | 6 => n6 | _ => n7, L⟩, c4, rfl, hv, ⟨⟨by simp only []; omega, by simp only []; omega⟩, hsq, hst, fun k hk => ?_, ho, hlen⟩⟩
    match k, hk with
    | 0, _ => exact e0
    | 1, _ => exact e1
    | 2, _ => exact e2
    | 3, _ => exact e3
    | 4, _ => exact e4
    | 5, _ => exact e5
    | 6, _ => exact e6
    | 7, _ => exact e7
set_option maxRecDepth 100000 in
/-- An argument that is an operation. -/
theorem open_top (hval : Value.okWide Tryd.prog W .any base 30 v) (h : DataW.Trod enc Tryd.prog W 0 (fun _ => true) true 30 v d p) (hw : ∀ q ∈ DataW.weights Tryd.prog 30 d, q ≤ reachBytes) :
    ∃ o : TO, v = .agg (tovs o) ∧ FitTO o := by
  obtain ⟨cs, rfl, hsz⟩ := okWide_struct Tryd.underlying30 hval
  rw [cellsTOp] at hsz
  obtain ⟨l⟩ := cs
  obtain ⟨fuel, hf⟩ := h
  obtain ⟨o, ho, hfo⟩ := trod_top (cs := l) (x := (d, p)) hsz (by simpa [Value.cells] using hf) hw
  refine ⟨o, ?_, hfo⟩
  rw [ho]
  rfl
set_option maxRecDepth 100000 in
/-- An argument that is a transaction. -/
theorem open_tx (hval : Value.okWide Tryd.prog W .any base 47 v) (h : DataW.Trod enc Tryd.prog W 0 (fun _ => true) true 47 v d p) (hw : ∀ q ∈ DataW.weights Tryd.prog 47 d, q ≤ reachBytes) :
    ∃ (t : TX) (u : Value), v = .agg (tcs t u) ∧ TOV W u t.ops ∧ FitX t := by
  obtain ⟨cs, rfl, hsz⟩ := okWide_struct Tryd.underlying47 hval
  rw [cellsTx] at hsz
  obtain ⟨l⟩ := cs
  obtain ⟨fuel, hf⟩ := h
  obtain ⟨t, u, ht, hv, hft⟩ := trod_tx (cs := l) (x := (d, p)) hsz (by simpa [Value.cells] using hf) hw
  refine ⟨t, u, ?_, hv, hft⟩
  rw [ht]
end
end Go.Proofs.YtioldhhnkeakcaaDoor
