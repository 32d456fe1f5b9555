/- Texts TxO, CutL, Obj, joined. -/
import Derived.Test.YtjpiemgpbakfaaaG04
import Derived.Test.YtjpiemgpbakfaaaG08
import Derived.Test.YtjpiemgpbakfaaaG02
/- The arguments of the laws of transactions: operations, transactions, lists of them: what they read as, and how long they are. -/
namespace Go.Proofs.Ytjpiemgpbakfaaa
open Go.ChangeShapes Go.WideShapes Go.RowKit Go.Deep

theorem cellsTOp : Try.prog.cellsOf 50 = 4 := by kernel_rfl
theorem cellsTx : Try.prog.cellsOf 38 = 12 := by kernel_rfl
theorem cellsTVec : Try.prog.cellsOf 30 = 8 := by kernel_rfl
theorem cellsTInt : Try.prog.cellsOf 3 = 1 := by kernel_rfl
theorem cellsTI64 : Try.prog.cellsOf 2 = 1 := by kernel_rfl
theorem cellsTU64 : Try.prog.cellsOf 28 = 1 := by kernel_rfl
theorem cellsTStr : Try.prog.cellsOf 9 = 1 := by kernel_rfl
theorem cellsTOps : Try.prog.cellsOf 36 = 1 := by kernel_rfl
theorem bytesTOp : Try.prog.bytesOf 50 = 48 := by kernel_rfl
theorem bytesTx : Try.prog.bytesOf 38 = 112 := by kernel_rfl
theorem list_of8 {α : Type} (l : List α) (h : l.length = 8) : ∃ a b c d e f g i, l = [a, b, c, d, e, f, g, i] := by
  match l, h with
  | [a, b, c, d, e, f, g, i], _ => exact ⟨a, b, c, d, e, f, g, i, rfl⟩
theorem list_of12 {α : Type} (l : List α) (h : l.length = 12) : ∃ a b c d e f g i j k m n, l = [a, b, c, d, e, f, g, i, j, k, m, n] := by
  match l, h with
  | [a, b, c, d, e, f, g, i, j, k, m, n], _ => exact ⟨a, b, c, d, e, f, g, i, j, k, m, n, rfl⟩
/-- What an operation's parts may be. -/
def FitTO (o : TO) : Prop := (-9223372036854775808 ≤ o.kind ∧ o.kind ≤ 9223372036854775807) ∧ (-9223372036854775808 ≤ o.n ∧ o.n ≤ 9223372036854775807) ∧ o.key.size ≤ 281474976710656 ∧ o.elem.size ≤ 281474976710656
/-- What a transaction's parts may be. -/
structure FitX (t : TX) : Prop where
  origin : -9223372036854775808 ≤ t.origin ∧ t.origin ≤ 9223372036854775807
  seq : t.seq < 18446744073709551616
  stamp : t.stamp < 18446744073709551616
  deps : ∀ k, k < 8 → t.deps k < 18446744073709551616
  ops : ∀ o ∈ t.ops, FitTO o
  len : (t.ops.length + 1) * 48 ≤ 140737488355328

section
variable {H : Type} {enc : TypeId × Value → H} {W : World} {base : Nat} {v : Value} {d : DataW H} {p : List MemPlace}
set_option maxRecDepth 100000 in
theorem trod_top {B : Nat} {sp : Nat → Bool} {hd : Bool} {m : Nat} {cs : List Value} {x : DataW H × List MemPlace} (hl : cs.length = 4) (hf : DataW.trod enc Try.prog W B sp hd m 50 cs = some x) (hw : ∀ q ∈ DataW.weights Try.prog 50 x.1, q ≤ reachBytes) :
    ∃ o : TO, cs = tocell o ∧ FitTO o := by
  obtain ⟨ys, n, _, hx, _, hyl, hg⟩ := DataW.trod_struct Try.underlying50 hf
  match cs, hl with
  | [c0, c1, c2, c3], _ =>
    match ys, hyl with
    | [y0, y1, y2, y3], _ =>
      have h0 := hg 0 ({ name := "Kind", type := 3, offset := 0, embedded := false, tag := "", pkgPath := "", byteOffset := 0 } : Field) rfl
      have h1 := hg 1 ({ name := "Key", type := 9, offset := 1, embedded := false, tag := "", pkgPath := "", byteOffset := 8 } : Field) rfl
      have h2 := hg 2 ({ name := "Elem", type := 9, offset := 2, embedded := false, tag := "", pkgPath := "", byteOffset := 24 } : Field) rfl
      have h3 := hg 3 ({ name := "N", type := 2, offset := 3, embedded := false, tag := "", pkgPath := "", byteOffset := 40 } : Field) rfl
      have h0' : DataW.trod enc Try.prog W B sp hd n 3 [c0] = some y0 := by simpa [cellsTInt] using h0
      have h1' : DataW.trod enc Try.prog W B sp hd n 9 [c1] = some y1 := by simpa [cellsTStr] using h1
      have h2' : DataW.trod enc Try.prog W B sp hd n 9 [c2] = some y2 := by simpa [cellsTStr] using h2
      have h3' : DataW.trod enc Try.prog W B sp hd n 2 [c3] = some y3 := by simpa [cellsTI64] using h3
      simp only [List.map_cons, List.map_nil] at hx
      obtain ⟨z0, hz0, _, w0⟩ := DataW.trod_int Try.underlying3 h0'
      obtain ⟨s1, hz1, hy1, _⟩ := DataW.trod_string Try.underlying9 h1'
      obtain ⟨s2, hz2, hy2, _⟩ := DataW.trod_string Try.underlying9 h2'
      obtain ⟨z3, hz3, _, w3⟩ := DataW.trod_int Try.underlying2 h3'
      injection hz0 with hz0
      injection hz1 with hz1
      injection hz2 with hz2
      injection hz3 with hz3
      subst hz0 hz1 hz2 hz3
      have b0 := bounds_i64 w0
      have b3 := bounds_i64 w3
      have hq1 := hw s1.data.toList.length (by
        rw [hx]
        simp only [DataW.weights, Try.underlying50]
        refine DataW.weights_mem_each (j := 1) (t := 9) (d := .lit (.string s1.data.toList)) rfl ?_ _ ?_
        · rw [hy1]; rfl
        · simp [DataW.weights])
      have hq2 := hw s2.data.toList.length (by
        rw [hx]
        simp only [DataW.weights, Try.underlying50]
        refine DataW.weights_mem_each (j := 2) (t := 9) (d := .lit (.string s2.data.toList)) rfl ?_ _ ?_
        · rw [hy2]; rfl
        · simp [DataW.weights])
      rw [Array.length_toList, reach_is] at hq1 hq2
      exact ⟨⟨z0, s1, s2, z3⟩, rfl, ⟨by simp only []; omega, by simp only []; omega⟩, ⟨by simp only []; omega, by simp only []; omega⟩, by change s1.size ≤ _ at hq1; simp only []; omega, by change s2.size ≤ _ at hq2; simp only []; omega⟩
theorem cells_at {w : World} {B : Nat} {a : Addr} {k : Nat} {cs : List Value} (hc : w.cells? B a k = some cs) (j : Nat) (hj : j < k) : w.cell? (a.add j) = cs[j]? := by
  obtain ⟨_, hl, hat⟩ := World.cells?_some hc
  exact hat j hj
set_option maxRecDepth 100000 in
/-- A slice of operations in a cell. -/
theorem trod_tops {m : Nat} {c : Value} {x : DataW H × List MemPlace} (hf : DataW.trod enc Try.prog W 0 (fun _ => true) true m 36 [c] = some x) (hw : ∀ q ∈ DataW.weights Try.prog 36 x.1, q ≤ reachBytes) :
    ∃ L : List TO, TOV W c L ∧ (∀ o ∈ L, FitTO o) ∧ (L.length + 1) * 48 ≤ 140737488355328 := by
  rcases open_slice Try.underlying36 hf with ⟨hcs, _⟩ | ⟨a, len, cap, m2, n, D, Pl, hcs, _, hl, hm, hmm, hx, hi⟩
  · injection hcs with hcs
    rw [hcs]
    exact ⟨[], TOV.nil W, (fun o ho => by cases ho), by decide⟩
  · injection hcs with hcs
    rw [hcs]
    simp only [if_true] at hmm
    subst hmm
    rw [cellsTOp] at hi
    rw [hx] at hw
    have hle := hw ((((List.range len).map D).length + ((List.range (m2 - len)).map fun j => D (len + j)).length) * Try.prog.bytesOf 50) (by
      simp only [DataW.weights, Try.underlying36]; exact List.mem_cons_self ..)
    rw [bytesTOp, List.length_map, List.length_range, reach_is] at hle
    have hel : ∀ i, i < len → ∀ q ∈ DataW.weights Try.prog 50 (D i), q ≤ reachBytes := fun i hil q hq => hw q (by
      simp only [DataW.weights, Try.underlying36]
      exact List.mem_cons_of_mem _ (List.mem_append.2 (.inl (weightsAll_mem (List.mem_map_of_mem (List.mem_range.2 hil)) hq))))
    have hsp : 0 < len → a.spot = none := fun h0 => spot_of (by decide) hi (show 0 < m2 by omega)
    have hex : ∀ i, i < len → ∃ o : TO, (∃ b off, a = ⟨b, off, none⟩ ∧ TCell W b (off + i * 4) o) ∧ FitTO o := fun i hil => by
      obtain ⟨cs', hc, ht⟩ := hi i (by omega)
      obtain ⟨_, hl4, _⟩ := World.cells?_some hc
      obtain ⟨o, rfl, ho⟩ := trod_top hl4 ht (hel i hil)
      have c0 := cells_at hc 0 (by decide)
      have c1 := cells_at hc 1 (by decide)
      have c2 := cells_at hc 2 (by decide)
      have c3 := cells_at hc 3 (by decide)
      obtain ⟨b, off, spot⟩ := a
      have hspot : spot = none := hsp (by omega)
      subst hspot
      rw [add_plain, add_plain] at c0 c1 c2 c3
      exact ⟨o, ⟨b, off, rfl, c0, c1, c2, c3⟩, ho⟩
    obtain ⟨L, hL, hall⟩ := list_of len hex
    refine ⟨L, ⟨some a, m2, by rw [hL], by omega, ⟨hm, fun h => by cases h⟩, fun j hj => ?_⟩, fun o ho => ?_, by rw [hL]; omega⟩
    · obtain ⟨⟨b, off, ha, hc⟩, _⟩ := hall j hj
      exact ⟨b, off, by rw [ha], hc⟩
    · obtain ⟨j, hj, rfl⟩ := List.mem_iff_getElem.1 ho
      exact (hall j hj).2
set_option maxRecDepth 100000 in
/-- A transaction's cells. -/
theorem trod_tx {m : Nat} {cs : List Value} {x : DataW H × List MemPlace} (hl : cs.length = 12) (hf : DataW.trod enc Try.prog W 0 (fun _ => true) true m 38 cs = some x) (hw : ∀ q ∈ DataW.weights Try.prog 38 x.1, q ≤ reachBytes) :
    ∃ (t : TX) (u : Value), cs = (tcs t u).toList ∧ TOV W u t.ops ∧ FitX t := by
  obtain ⟨ys, n, _, hx, _, hyl, hg⟩ := DataW.trod_struct Try.underlying38 hf
  obtain ⟨c0, c1, c2, d0, d1, d2, d3, d4, d5, d6, d7, c4, rfl⟩ := list_of12 cs hl
  match ys, hyl with
  | [y0, y1, y2, y3, y4], _ =>
    have h0 := hg 0 ({ name := "Origin", type := 3, offset := 0, embedded := false, tag := "", pkgPath := "", byteOffset := 0 } : Field) rfl
    have h1 := hg 1 ({ name := "Seq", type := 28, offset := 1, embedded := false, tag := "", pkgPath := "", byteOffset := 8 } : Field) rfl
    have h2 := hg 2 ({ name := "Stamp", type := 28, offset := 2, embedded := false, tag := "", pkgPath := "", byteOffset := 16 } : Field) rfl
    have h3 := hg 3 ({ name := "Deps", type := 30, offset := 3, embedded := false, tag := "", pkgPath := "", byteOffset := 24 } : Field) rfl
    have h4 := hg 4 ({ name := "Ops", type := 36, offset := 11, embedded := false, tag := "", pkgPath := "", byteOffset := 88 } : Field) rfl
    have h0' : DataW.trod enc Try.prog W 0 (fun _ => true) true n 3 [c0] = some y0 := by simpa [cellsTInt] using h0
    have h1' : DataW.trod enc Try.prog W 0 (fun _ => true) true n 28 [c1] = some y1 := by simpa [cellsTU64] using h1
    have h2' : DataW.trod enc Try.prog W 0 (fun _ => true) true n 28 [c2] = some y2 := by simpa [cellsTU64] using h2
    have h3' : DataW.trod enc Try.prog W 0 (fun _ => true) true n 30 [d0, d1, d2, d3, d4, d5, d6, d7] = some y3 := by simpa [cellsTVec] using h3
    have h4' : DataW.trod enc Try.prog W 0 (fun _ => true) true n 36 [c4] = some y4 := by simpa [cellsTOps] using h4
    simp only [List.map_cons, List.map_nil] at hx
    have one : ∀ (m : Nat) (c : Value) (y : DataW H × List MemPlace), DataW.trod enc Try.prog W 0 (fun _ => true) true m 28 [c] = some y → ∃ n : Nat, c = .int .u64 (n : Int) ∧ n < 18446744073709551616 := fun m c y hy => by
      obtain ⟨x, e, _, w⟩ := DataW.trod_int Try.underlying28 hy
      have b := bounds_u64 w
      obtain ⟨n, rfl⟩ := Int.eq_ofNat_of_zero_le b.1
      exact ⟨n, by simpa using e, by omega⟩
    obtain ⟨z0, hz0, _, w0⟩ := DataW.trod_int Try.underlying3 h0'
    injection hz0 with hz0
    subst hz0
    have b0 := bounds_i64 w0
    obtain ⟨sq, rfl, hsq⟩ := one _ _ _ h1'
    obtain ⟨st, rfl, hst⟩ := one _ _ _ h2'
    obtain ⟨xs, m', rfl, hx2, hl2, hxl, hall⟩ := DataW.trod_array Try.underlying30 h3'
    obtain ⟨x0, x1, x2, x3, x4, x5, x6, x7, rfl⟩ := list_of8 xs hxl
    rw [cellsTU64] at hall
    obtain ⟨n0, rfl, e0⟩ := one _ d0 x0 (hall 0 (by decide))
    obtain ⟨n1, rfl, e1⟩ := one _ d1 x1 (hall 1 (by decide))
    obtain ⟨n2, rfl, e2⟩ := one _ d2 x2 (hall 2 (by decide))
    obtain ⟨n3, rfl, e3⟩ := one _ d3 x3 (hall 3 (by decide))
    obtain ⟨n4, rfl, e4⟩ := one _ d4 x4 (hall 4 (by decide))
    obtain ⟨n5, rfl, e5⟩ := one _ d5 x5 (hall 5 (by decide))
    obtain ⟨n6, rfl, e6⟩ := one _ d6 x6 (hall 6 (by decide))
    obtain ⟨n7, rfl, e7⟩ := one _ d7 x7 (hall 7 (by decide))
    obtain ⟨L, hv, ho, hlen⟩ := trod_tops h4' (fun q hq => hw q (by
      rw [hx]
      simp only [DataW.weights, Try.underlying38]
      exact DataW.weights_mem_each (j := 4) (t := 36) (d := y4.1) rfl rfl q hq))
    refine ⟨⟨z0, sq, st, fun k => match k with | 0 => n0 | 1 => n1 | 2 => n2 | 3 => n3 | 4 => n4 | 5 => n5 | 6 => n6 | _ => n7, L⟩, c4, rfl, hv, ⟨⟨by simp only []; omega, by simp only []; omega⟩, hsq, hst, fun k hk => ?_, ho, hlen⟩⟩
    match k, hk with
    | 0, _ => exact e0
    | 1, _ => exact e1
    | 2, _ => exact e2
    | 3, _ => exact e3
    | 4, _ => exact e4
    | 5, _ => exact e5
    | 6, _ => exact e6
    | 7, _ => exact e7
set_option maxRecDepth 100000 in
/-- An argument that is an operation. -/
theorem open_top (hval : Value.okWide Try.prog W .any base 50 v) (h : DataW.Trod enc Try.prog W 0 (fun _ => true) true 50 v d p) (hw : ∀ q ∈ DataW.weights Try.prog 50 d, q ≤ reachBytes) :
    ∃ o : TO, v = .agg (tovs o) ∧ FitTO o := by
  obtain ⟨cs, rfl, hsz⟩ := okWide_struct Try.underlying50 hval
  rw [cellsTOp] at hsz
  obtain ⟨l⟩ := cs
  obtain ⟨fuel, hf⟩ := h
  obtain ⟨o, ho, hfo⟩ := trod_top (cs := l) (x := (d, p)) hsz (by simpa [Value.cells] using hf) hw
  refine ⟨o, ?_, hfo⟩
  rw [ho]
  rfl
set_option maxRecDepth 100000 in
/-- An argument that is a transaction. -/
theorem open_tx (hval : Value.okWide Try.prog W .any base 38 v) (h : DataW.Trod enc Try.prog W 0 (fun _ => true) true 38 v d p) (hw : ∀ q ∈ DataW.weights Try.prog 38 d, q ≤ reachBytes) :
    ∃ (t : TX) (u : Value), v = .agg (tcs t u) ∧ TOV W u t.ops ∧ FitX t := by
  obtain ⟨cs, rfl, hsz⟩ := okWide_struct Try.underlying38 hval
  rw [cellsTx] at hsz
  obtain ⟨l⟩ := cs
  obtain ⟨fuel, hf⟩ := h
  obtain ⟨t, u, ht, hv, hft⟩ := trod_tx (cs := l) (x := (d, p)) hsz (by simpa [Value.cells] using hf) hw
  refine ⟨t, u, ?_, hv, hft⟩
  rw [ht]
set_option maxRecDepth 100000 in
/-- A slice of transactions in a cell. -/
theorem trod_txs {m : Nat} {c : Value} {x : DataW H × List MemPlace} (hf : DataW.trod enc Try.prog W 0 (fun _ => true) true m 22 [c] = some x) (hw : ∀ q ∈ DataW.weights Try.prog 22 x.1, q ≤ reachBytes) :
    ∃ L : List TX, XV W c L ∧ (∀ t ∈ L, FitX t) ∧ (L.length + 1) * 112 ≤ 140737488355328 := by
  rcases open_slice Try.underlying22 hf with ⟨hcs, _⟩ | ⟨a, len, cap, m2, n, D, Pl, hcs, _, hl, hm, hmm, hx, hi⟩
  · injection hcs with hcs
    rw [hcs]
    exact ⟨[], ⟨none, 0, rfl, Nat.le_refl _, ⟨Nat.zero_le _, fun _ => rfl⟩, fun j hj => absurd hj (by simp)⟩, (fun o ho => by cases ho), by decide⟩
  · injection hcs with hcs
    rw [hcs]
    simp only [if_true] at hmm
    subst hmm
    rw [cellsTx] at hi
    rw [hx] at hw
    have hle := hw ((((List.range len).map D).length + ((List.range (m2 - len)).map fun j => D (len + j)).length) * Try.prog.bytesOf 38) (by
      simp only [DataW.weights, Try.underlying22]; exact List.mem_cons_self ..)
    rw [bytesTx, List.length_map, List.length_range, reach_is] at hle
    have hel : ∀ i, i < len → ∀ q ∈ DataW.weights Try.prog 38 (D i), q ≤ reachBytes := fun i hil q hq => hw q (by
      simp only [DataW.weights, Try.underlying22]
      exact List.mem_cons_of_mem _ (List.mem_append.2 (.inl (weightsAll_mem (List.mem_map_of_mem (List.mem_range.2 hil)) hq))))
    have hsp : 0 < len → a.spot = none := fun h0 => spot_of (by decide) hi (show 0 < m2 by omega)
    have hex : ∀ i, i < len → ∃ t : TX, (∃ b off, a = ⟨b, off, none⟩ ∧ XCell W b (off + i * 12) t) ∧ FitX t := fun i hil => by
      obtain ⟨cs', hc, ht⟩ := hi i (by omega)
      obtain ⟨_, hl12, _⟩ := World.cells?_some hc
      obtain ⟨t, u, rfl, hv, hft⟩ := trod_tx hl12 ht (hel i hil)
      have hat := fun j hj => cells_at hc j hj
      obtain ⟨b, off, spot⟩ := a
      have hspot : spot = none := hsp (by omega)
      subst hspot
      have at2 : ∀ j, j < 12 → W.cell? ⟨b, off + i * 12 + j, none⟩ = (tcs t u).toList[j]? := fun j hj => by
        have := hat j hj
        rw [add_plain, add_plain] at this
        exact this
      exact ⟨t, ⟨b, off, rfl, u, hv, at2 0 (by decide), at2 1 (by decide), at2 2 (by decide), at2 3 (by decide), at2 4 (by decide), at2 5 (by decide), at2 6 (by decide), at2 7 (by decide), at2 8 (by decide), at2 9 (by decide), at2 10 (by decide), at2 11 (by decide)⟩, hft⟩
    obtain ⟨L, hL, hall⟩ := list_of len hex
    refine ⟨L, ⟨some a, m2, by rw [hL], by omega, ⟨hm, fun h => by cases h⟩, fun j hj => ?_⟩, fun o ho => ?_, by rw [hL]; omega⟩
    · obtain ⟨⟨b, off, ha, hc⟩, _⟩ := hall j hj
      exact ⟨b, off, by rw [ha], hc⟩
    · obtain ⟨j, hj, rfl⟩ := List.mem_iff_getElem.1 ho
      exact (hall j hj).2
set_option maxRecDepth 100000 in
/-- An argument that is a slice of transactions. -/
theorem open_txs (hval : Value.okWide Try.prog W .any base 22 v) (h : DataW.Trod enc Try.prog W 0 (fun _ => true) true 22 v d p) (hw : ∀ q ∈ DataW.weights Try.prog 22 d, q ≤ reachBytes) :
    ∃ L : List TX, XV W v L ∧ (∀ t ∈ L, FitX t) ∧ (L.length + 1) * 112 ≤ 140737488355328 := by
  obtain ⟨a0, len0, cap0, rfl⟩ := okWide_slice Try.underlying22 hval
  obtain ⟨fuel, hf⟩ := h
  exact trod_txs (x := (d, p)) (by simpa [Value.cells] using hf) hw
end
end Go.Proofs.Ytjpiemgpbakfaaa
/- Logs as they are read: an array of eight slices of transactions; the arguments of the laws opened. -/
namespace Go.Proofs.Ytjpiemgpbakfaaa
open Go.ChangeShapes Go.WideShapes Go.RowKit Go.Deep

/-- A slice's three parts. -/
structure S3 where
  a : Option Addr
  n : Nat
  c : Nat
abbrev S3.v (s : S3) : Value := .slice s.a s.n s.c
abbrev lcells (u : Nat → S3) : Array Value := #[.slice (u 0).a (u 0).n (u 0).c, .slice (u 1).a (u 1).n (u 1).c, .slice (u 2).a (u 2).n (u 2).c, .slice (u 3).a (u 3).n (u 3).c, .slice (u 4).a (u 4).n (u 4).c, .slice (u 5).a (u 5).n (u 5).c, .slice (u 6).a (u 6).n (u 6).c, .slice (u 7).a (u 7).n (u 7).c]
theorem lcells_at (u : Nat → S3) {k : Nat} (hk : k < 8) : (lcells u)[k]? = some (.slice (u k).a (u k).n (u k).c) := by
  match k, hk with
  | 0, _ => rfl
  | 1, _ => rfl
  | 2, _ => rfl
  | 3, _ => rfl
  | 4, _ => rfl
  | 5, _ => rfl
  | 6, _ => rfl
  | 7, _ => rfl
/-- The eight slices read as the logs. -/
def LV (w : World) (u : Nat → S3) (l : LG) : Prop := ∀ i, i < 8 → XV w (.slice (u i).a (u i).n (u i).c) (l i)
theorem LV.len {w : World} {u : Nat → S3} {l : LG} (h : LV w u l) {i : Nat} (hi : i < 8) : (u i).n = (l i).length := by
  obtain ⟨A, c, hv, _⟩ := h i hi
  injection hv
theorem LV.gr {w w' : World} {u : Nat → S3} {l : LG} (h : LV w u l) (g : Gr w w') : LV w' u l := fun i hi => (h i hi).gr g
theorem LV.congr {w : World} {u : Nat → S3} {l l' : LG} (h : LV w u l) (e : ∀ i, i < 8 → l i = l' i) : LV w u l' := fun i hi => by rw [← e i hi]; exact h i hi
/-- A transaction whose vector has no ninth number. -/
def Can (t : TX) : Prop := ∀ k, 8 ≤ k → t.deps k = 0
def can (t : TX) : TX := ⟨t.origin, t.seq, t.stamp, fun k => if k < 8 then t.deps k else 0, t.ops⟩
theorem can_can (t : TX) : Can (can t) := fun k hk => if_neg (by omega)
theorem xcell_can {w : World} {b off : Nat} {t : TX} (h : XCell w b off t) : XCell w b off (can t) := by
  obtain ⟨v, h0, h1⟩ := h
  exact ⟨v, h0, h1⟩
theorem fit_can {t : TX} (h : FitX t) : FitX (can t) := ⟨h.origin, h.seq, h.stamp, fun k hk => by show (if _ then _ else _) < _; rw [if_pos hk]; exact h.deps k hk, h.ops, h.len⟩
theorem xv_can {w : World} {v : Value} {L : List TX} (h : XV w v L) : XV w v (L.map can) := by
  obtain ⟨A, c, hv, h1, h2, h3⟩ := h
  refine ⟨A, c, by rw [List.length_map]; exact hv, by rw [List.length_map]; exact h1, h2, fun j hj => ?_⟩
  rw [List.length_map] at hj
  obtain ⟨b, off, ha, hc⟩ := h3 j hj
  rw [List.getElem_map]
  exact ⟨b, off, ha, xcell_can hc⟩
/-- What logs that were handed in may hold. -/
structure FitL (l : LG) : Prop where
  fit : ∀ i t, i < 8 → t ∈ l i → FitX t
  can : ∀ i t, i < 8 → t ∈ l i → Can t
  len : ∀ i, i < 8 → ((l i).length + 1) * 112 ≤ 140737488355328
theorem same_can {a b : TX} (ha : Can a) (hb : Can b) : sameT a b = true ↔ a = b := by
  refine ⟨fun h => ?_, fun h => by subst h; exact sameT_self a⟩
  unfold sameT at h
  rw [Bool.and_eq_true, Bool.and_eq_true, Bool.and_eq_true, Bool.and_eq_true, beq_iff_eq, beq_iff_eq, beq_iff_eq, eqB_iff, tsameB_iff] at h
  obtain ⟨h1, h2, h3, h4, h5⟩ := h
  obtain ⟨o, s, p, d, q⟩ := a
  obtain ⟨o', s', p', d', q'⟩ := b
  simp only at h1 h2 h3 h4 h5
  subst h1 h2 h3 h5
  have : d = d' := funext fun k => by
    rcases Nat.lt_or_ge k 8 with h | h
    · exact h4 k h
    · exact (ha k h).trans (hb k h).symm
  rw [this]
theorem sameL_can {La Lb : List TX} (ha : ∀ t ∈ La, Can t) (hb : ∀ t ∈ Lb, Can t) : sameL La Lb = true ↔ La = Lb := by
  refine ⟨fun h => ?_, fun h => by subst h; exact sameL_self La⟩
  have hl : La.length = Lb.length := by
    by_cases e : La.length = Lb.length
    · exact e
    · rw [sameL_len e] at h; cases h
  refine List.ext_getElem hl fun j h1 h2 => ?_
  exact (same_can (ha _ (List.getElem_mem h1)) (hb _ (List.getElem_mem h2))).1 ((sameL_at hl).1 h j h1 h2)
theorem cellsTxs : Try.prog.cellsOf 22 = 1 := by kernel_rfl
theorem cellsLogs : Try.prog.cellsOf 24 = 8 := by kernel_rfl

section
variable {H : Type} {enc : TypeId × Value → H} {W : World} {base : Nat} {v : Value} {d : DataW H} {p : List MemPlace}
set_option maxRecDepth 100000 in
/-- An argument that is logs. -/
theorem open_logs (hval : Value.okWide Try.prog W .any base 24 v) (h : DataW.Trod enc Try.prog W 0 (fun _ => true) true 24 v d p) (hw : ∀ q ∈ DataW.weights Try.prog 24 d, q ≤ reachBytes) :
    ∃ (u : Nat → S3) (l : LG), v = .agg (lcells u) ∧ LV W u l ∧ FitL l := by
  obtain ⟨cs, rfl, hsz, _⟩ : ∃ cs, v = .agg cs ∧ cs.size = Try.prog.cellsOf 24 ∧ Row.okWide Try.prog W .any base 24 cs := by
    simpa [Value.okWide, Try.underlying24] using hval
  rw [cellsLogs] at hsz
  obtain ⟨fuel, hf⟩ := h
  obtain ⟨xs, m, rfl, hx, hl, hxl, hall⟩ := DataW.trod_array Try.underlying24 hf
  obtain ⟨l⟩ := cs
  obtain ⟨c0, c1, c2, c3, c4, c5, c6, c7, rfl⟩ := list_of8 l (by simpa using hsz)
  obtain ⟨y0, y1, y2, y3, y4, y5, y6, y7, rfl⟩ := list_of8 xs hxl
  injection hx with hd hpl
  subst hd
  have hw' : ∀ y ∈ [y0, y1, y2, y3, y4, y5, y6, y7], ∀ q ∈ DataW.weights Try.prog 22 y.1, q ≤ reachBytes := fun y hy q hq => hw q (by
    simp only [DataW.weights, Try.underlying24]
    exact weightsAll_mem (List.mem_map_of_mem hy) hq)
  rw [cellsTxs] at hall
  have one : ∀ (c : Value) (y : DataW H × List MemPlace), y ∈ [y0, y1, y2, y3, y4, y5, y6, y7] → DataW.trod enc Try.prog W 0 (fun _ => true) true m 22 [c] = some y → ∃ L : List TX, XV W c L ∧ (∀ t ∈ L, FitX t) ∧ (∀ t ∈ L, Can t) ∧ (L.length + 1) * 112 ≤ 140737488355328 := fun c y hy hc => by
    obtain ⟨L, hv, hfx, hlen⟩ := trod_txs hc (hw' y hy)
    refine ⟨L.map can, xv_can hv, fun t ht => ?_, fun t ht => ?_, by rw [List.length_map]; exact hlen⟩
    · obtain ⟨u, hu, rfl⟩ := List.mem_map.1 ht
      exact fit_can (hfx u hu)
    · obtain ⟨u, hu, rfl⟩ := List.mem_map.1 ht
      exact can_can u
  obtain ⟨L0, a0, f0, g0, n0⟩ := one c0 y0 (by simp) (hall 0 (by decide))
  obtain ⟨A0, k0, rfl⟩ := xv_form a0
  obtain ⟨L1, a1, f1, g1, n1⟩ := one c1 y1 (by simp) (hall 1 (by decide))
  obtain ⟨A1, k1, rfl⟩ := xv_form a1
  obtain ⟨L2, a2, f2, g2, n2⟩ := one c2 y2 (by simp) (hall 2 (by decide))
  obtain ⟨A2, k2, rfl⟩ := xv_form a2
  obtain ⟨L3, a3, f3, g3, n3⟩ := one c3 y3 (by simp) (hall 3 (by decide))
  obtain ⟨A3, k3, rfl⟩ := xv_form a3
  obtain ⟨L4, a4, f4, g4, n4⟩ := one c4 y4 (by simp) (hall 4 (by decide))
  obtain ⟨A4, k4, rfl⟩ := xv_form a4
  obtain ⟨L5, a5, f5, g5, n5⟩ := one c5 y5 (by simp) (hall 5 (by decide))
  obtain ⟨A5, k5, rfl⟩ := xv_form a5
  obtain ⟨L6, a6, f6, g6, n6⟩ := one c6 y6 (by simp) (hall 6 (by decide))
  obtain ⟨A6, k6, rfl⟩ := xv_form a6
  obtain ⟨L7, a7, f7, g7, n7⟩ := one c7 y7 (by simp) (hall 7 (by decide))
  obtain ⟨A7, k7, rfl⟩ := xv_form a7
  refine ⟨fun k => match k with | 0 => ⟨A0, L0.length, k0⟩ | 1 => ⟨A1, L1.length, k1⟩ | 2 => ⟨A2, L2.length, k2⟩ | 3 => ⟨A3, L3.length, k3⟩ | 4 => ⟨A4, L4.length, k4⟩ | 5 => ⟨A5, L5.length, k5⟩ | 6 => ⟨A6, L6.length, k6⟩ | _ => ⟨A7, L7.length, k7⟩, fun k => match k with | 0 => L0 | 1 => L1 | 2 => L2 | 3 => L3 | 4 => L4 | 5 => L5 | 6 => L6 | _ => L7, rfl, fun k hk => ?_, fun k t hk => ?_, fun k t hk => ?_, fun k hk => ?_⟩
  · match k, hk with
    | 0, _ => exact a0
    | 1, _ => exact a1
    | 2, _ => exact a2
    | 3, _ => exact a3
    | 4, _ => exact a4
    | 5, _ => exact a5
    | 6, _ => exact a6
    | 7, _ => exact a7
  · match k, hk with
    | 0, _ => exact f0 t
    | 1, _ => exact f1 t
    | 2, _ => exact f2 t
    | 3, _ => exact f3 t
    | 4, _ => exact f4 t
    | 5, _ => exact f5 t
    | 6, _ => exact f6 t
    | 7, _ => exact f7 t
  · match k, hk with
    | 0, _ => exact g0 t
    | 1, _ => exact g1 t
    | 2, _ => exact g2 t
    | 3, _ => exact g3 t
    | 4, _ => exact g4 t
    | 5, _ => exact g5 t
    | 6, _ => exact g6 t
    | 7, _ => exact g7 t
  · match k, hk with
    | 0, _ => exact n0
    | 1, _ => exact n1
    | 2, _ => exact n2
    | 3, _ => exact n3
    | 4, _ => exact n4
    | 5, _ => exact n5
    | 6, _ => exact n6
    | 7, _ => exact n7
end
set_option maxRecDepth 100000 in
/-- An argument that is a vector. -/
theorem open_vecc {H : Type} {enc : TypeId × Value → H} {W : World} {base B : Nat} {sp : Nat → Bool} {held : Bool} {v : Value} {d : DataW H} {p : List MemPlace}
    (hw : Value.okWide Try.prog W .any base 30 v) (h : DataW.Trod enc Try.prog W B sp held 30 v d p) : ∃ a : Nat → Nat, v = .agg (vcells a) ∧ ∀ k, k < 8 → a k < 18446744073709551616 := by
  obtain ⟨cs, rfl, hsz, _⟩ : ∃ cs, v = .agg cs ∧ cs.size = Try.prog.cellsOf 30 ∧ Row.okWide Try.prog W .any base 30 cs := by
    simpa [Value.okWide, Try.underlying30] using hw
  rw [cellsTVec] at hsz
  obtain ⟨fuel, hf⟩ := h
  obtain ⟨xs, m, rfl, hx, hl, hxl, hall⟩ := DataW.trod_array Try.underlying30 hf
  obtain ⟨l⟩ := cs
  obtain ⟨c0, c1, c2, c3, c4, c5, c6, c7, rfl⟩ := list_of8 l (by simpa using hsz)
  obtain ⟨y0, y1, y2, y3, y4, y5, y6, y7, rfl⟩ := list_of8 xs hxl
  have one : ∀ (c : Value) (y : DataW H × List MemPlace), DataW.trod enc Try.prog W B sp held m 28 [c] = some y → ∃ n : Nat, c = .int .u64 (n : Int) ∧ n < 18446744073709551616 := fun c y hy => by
    obtain ⟨x, e, _, w⟩ := DataW.trod_int Try.underlying28 hy
    have b := bounds_u64 w
    obtain ⟨n, rfl⟩ := Int.eq_ofNat_of_zero_le b.1
    exact ⟨n, by simpa using e, by omega⟩
  rw [cellsTU64] at hall
  obtain ⟨n0, rfl, b0⟩ := one c0 y0 (hall 0 (by decide))
  obtain ⟨n1, rfl, b1⟩ := one c1 y1 (hall 1 (by decide))
  obtain ⟨n2, rfl, b2⟩ := one c2 y2 (hall 2 (by decide))
  obtain ⟨n3, rfl, b3⟩ := one c3 y3 (hall 3 (by decide))
  obtain ⟨n4, rfl, b4⟩ := one c4 y4 (hall 4 (by decide))
  obtain ⟨n5, rfl, b5⟩ := one c5 y5 (hall 5 (by decide))
  obtain ⟨n6, rfl, b6⟩ := one c6 y6 (hall 6 (by decide))
  obtain ⟨n7, rfl, b7⟩ := one c7 y7 (hall 7 (by decide))
  refine ⟨fun k => match k with | 0 => n0 | 1 => n1 | 2 => n2 | 3 => n3 | 4 => n4 | 5 => n5 | 6 => n6 | _ => n7, rfl, fun k hk => ?_⟩
  match k, hk with
  | 0, _ => exact b0
  | 1, _ => exact b1
  | 2, _ => exact b2
  | 3, _ => exact b3
  | 4, _ => exact b4
  | 5, _ => exact b5
  | 6, _ => exact b6
  | 7, _ => exact b7
end Go.Proofs.Ytjpiemgpbakfaaa
/- Blocks and rows: what a store or a grown row leaves. It names no function. -/
namespace Go.Proofs.Ytjpiemgpbakfaaa
open Go.RowKit

/-- A row of another type stays where a row is changed. -/
theorem own_past {w w' : World} {B size size' n n' : Nat} {t t' : TypeId} {v u : Value} {xs ys : List Value} (h : w.ownsRow B t size v n xs) (hc : w.ownsRow B t' size' u n' ys) (ht : t ≠ t') (k : Kp u.ownBlock w w') : w'.ownsRow B t size v n xs := by
  refine World.ownsRow.kept h k ?_
  cases hb : v.ownBlock with
  | none => exact .inl rfl
  | some b => exact .inr fun e => own_types h hc ht hb e.symm
/-- What lies at a block that no row of another type owns. -/
theorem kp_obj {r : Option Nat} {w w' : World} (k : Kp r w w') {b : Nat} {o : Obj} (h : w.heap[b]? = some o) (hr : r ≠ some b) : w'.heap[b]? = some o := by
  rw [k.block b (Array.getElem?_eq_some_iff.1 h).1 (fun e => hr e.symm)]
  exact h
theorem gr_obj {w w' : World} (g : Gr w w') {b : Nat} {o : Obj} (h : w.heap[b]? = some o) : w'.heap[b]? = some o := by
  rw [g.block b (Array.getElem?_eq_some_iff.1 h).1]
  exact h
theorem own_ne_obj {w : World} {B size n : Nat} {t t' : TypeId} {v : Value} {xs : List Value} {b : Nat} {cs : Array Value} {fr : Nat × Nat} (h : w.ownsRow B t size v n xs) (ho : w.heap[b]? = some (.cells cs t' fr)) (ht : t ≠ t') : v.ownBlock ≠ some b := by
  intro e
  rcases h.2 with ⟨rfl, _⟩ | ⟨g, cap, cur, rfl, _, hg, _⟩
  · cases e
  · have e1 : g = b := by simpa [Value.ownBlock] using e
    subst e1
    rw [hg] at ho
    injection ho with ho
    injection ho with _ ho
    exact ht ho
theorem obj_cell {w : World} {b i : Nat} {cs : Array Value} {t : TypeId} {fr : Nat × Nat} {v : Value} (h : w.heap[b]? = some (.cells cs t fr)) (hv : cs[i]? = some v) : w.cell? ⟨b, i, none⟩ = some v := by
  unfold World.cell?
  simp only [h]
  exact hv
theorem obj_free {w : World} {b i : Nat} {cs : Array Value} {t : TypeId} (h : w.heap[b]? = some (.cells cs t (0, 0))) : w.frozen? ⟨b, i, none⟩ = false := by
  unfold World.frozen?
  simp only [h]
  simp
theorem set_obj {w : World} {b i : Nat} {cs : Array Value} {t : TypeId} {fr : Nat × Nat} (h : w.heap[b]? = some (.cells cs t fr)) (v : Value) : (w.setCell ⟨b, i, none⟩ v).heap[b]? = some (.cells (cs.setIfInBounds i v) t fr) := by
  have hlt : b < w.heap.size := (Array.getElem?_eq_some_iff.1 h).1
  have he : w.heap[b] = .cells cs t fr := (Array.getElem?_eq_some_iff.1 h).2
  show (w.heap.modify b _)[b]? = _
  rw [Array.getElem?_eq_getElem (by simpa using hlt), Array.getElem_modify, if_pos rfl, he]
  rfl
theorem set_obj_other {w : World} {b b' i : Nat} {o : Obj} (h : w.heap[b']? = some o) (hne : b' ≠ b) (v : Value) : (w.setCell ⟨b, i, none⟩ v).heap[b']? = some o := by
  rw [Below.heap_setCell w ⟨b, i, none⟩ v b' hne]
  exact h
theorem own_set_obj {w : World} {B size n : Nat} {t t' : TypeId} {u : Value} {xs : List Value} {b i : Nat} {cs : Array Value} {fr : Nat × Nat} (h : w.ownsRow B t size u n xs) (ho : w.heap[b]? = some (.cells cs t' fr)) (ht : t ≠ t') (v : Value) : (w.setCell ⟨b, i, none⟩ v).ownsRow B t size u n xs :=
  World.ownsRow.kept h ((Kp.refl (some b) w).set (.inr rfl) i v) (.inr (own_ne_obj h ho ht))
end Go.Proofs.Ytjpiemgpbakfaaa
