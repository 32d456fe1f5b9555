/- The arguments of the laws of the net: nets, sendings, vectors: what they read as, and how long they are. -/
import Derived.Test.YtfmfeokjnkbpeaaWiS
import Derived.Test.YtfmfeokjnkbpeaaWiT
import Derived.Test.YtfmfeokjnkbpeaaOpn
namespace Go.Proofs.Ytfmfeokjnkbpeaa.Wi
open Go.ChangeShapes Go.WideShapes Go.RowKit Go.Deep
set_option linter.unusedSimpArgs false

theorem cellsPacket : Try.prog.cellsOf 31 = 4 := by kernel_rfl
theorem cellsNet : Try.prog.cellsOf 25 = 10 := by kernel_rfl
theorem cellsSending : Try.prog.cellsOf 38 = 3 := by kernel_rfl
theorem bytesPacket : Try.prog.bytesOf 31 = 40 := by kernel_rfl
theorem cellsVec : Try.prog.cellsOf 45 = 8 := by kernel_rfl
theorem cellsU64 : Try.prog.cellsOf 43 = 1 := by kernel_rfl
theorem cellsStr : Try.prog.cellsOf 9 = 1 := by kernel_rfl
theorem list_8 {α : Type} (l : List α) (h : l.length = 8) : ∃ a b c d e f g i, l = [a, b, c, d, e, f, g, i] := by
  match l, h with
  | [a, b, c, d, e, f, g, i], _ => exact ⟨a, b, c, d, e, f, g, i, rfl⟩

section
variable {H : Type} {enc : TypeId × Value → H} {W : World} {base : Nat} {v : Value} {d : DataW H} {p : List MemPlace}
set_option maxRecDepth 100000 in
theorem open_packets {m : Nat} {cs : List Value} {x : DataW H × List MemPlace} (hf : DataW.trod enc Try.prog W 0 (fun _ => true) true m 22 cs = some x) (hw : ∀ q ∈ DataW.weights Try.prog 22 x.1, q ≤ reachBytes) :
    ∃ u L, cs = [u] ∧ PV W u L ∧ (L.length + 1) * 40 ≤ 140737488355328 ∧ Fit L := by
  rcases open_slice Try.underlying22 hf with ⟨rfl, _⟩ | ⟨a, len, cap, m', n, D, Pl, rfl, _, hl, hm, hmm, hx, hi⟩
  · exact ⟨_, [], rfl, PV.nil W, by decide, fun f hf => by cases hf⟩
  · simp only [if_true] at hmm
    subst hmm
    rw [cellsPacket] at hi
    rw [hx] at hw
    have hle := hw ((((List.range len).map D).length + ((List.range (m' - len)).map fun j => D (len + j)).length) * Try.prog.bytesOf 31) (by
      simp only [DataW.weights, Try.underlying22]; exact List.mem_cons_self ..)
    rw [bytesPacket, List.length_map, List.length_range, reach_is] at hle
    have hel : ∀ i, i < len → ∀ q ∈ DataW.weights Try.prog 31 (D i), q ≤ reachBytes := fun i hil q hq => hw q (by
      simp only [DataW.weights, Try.underlying22]
      exact List.mem_cons_of_mem _ (List.mem_append.2 (.inl (weightsAll_mem (List.mem_map_of_mem (List.mem_range.2 hil)) hq))))
    have hsp : 0 < len → a.spot = none := fun h0 => spot_of (by decide) hi (show 0 < m' by omega)
    have hex : ∀ i, i < len → ∃ f : P, (∃ b off, a = ⟨b, off, none⟩ ∧ PCell W b (off + i * 4) f) ∧ f.body.size ≤ 281474976710656 := fun i hil => by
      obtain ⟨cs', hc, ht⟩ := hi i (by omega)
      obtain ⟨ys, n', hd, hyl, hg⟩ := open_row Try.underlying31 (by kernel_rfl) rfl hc ht
      have hD : D i = .agg (ys.map (·.1)) := hd
      have hwi := hel i hil
      rw [hD] at hwi
      have num : ∀ j, ∀ f : Field, (Array.mk [({ name := "ID", type := 3, offset := 0, embedded := false, tag := "", pkgPath := "", byteOffset := 0 } : Field), { name := "From", type := 3, offset := 1, embedded := false, tag := "", pkgPath := "", byteOffset := 8 }, { name := "To", type := 3, offset := 2, embedded := false, tag := "", pkgPath := "", byteOffset := 16 }, { name := "Body", type := 9, offset := 3, embedded := false, tag := "", pkgPath := "", byteOffset := 24 }])[j]? = some f → f.type = 3 → j < 4 → ∃ z : Int, W.cell? ((a.add (i * 4)).add j) = some (.int .i64 z) := fun j f hj hft hj3 => by
        obtain ⟨u, y, hcell, hy, htr⟩ := hg j f hj hj3
        rw [hft] at htr
        obtain ⟨z, hs, _, hwf⟩ := DataW.trod_int Try.underlying3 htr
        injection hs with hs
        subst hs
        exact ⟨z, hcell⟩
      obtain ⟨z0, c0⟩ := num 0 _ rfl rfl (by decide)
      obtain ⟨z1, c1⟩ := num 1 _ rfl rfl (by decide)
      obtain ⟨z2, c2⟩ := num 2 _ rfl rfl (by decide)
      obtain ⟨s3, c3, y3⟩ : ∃ s : ByteArray, W.cell? ((a.add (i * 4)).add 3) = some (.string s) ∧ s.size ≤ reachBytes := by
        obtain ⟨u, y, hcell, hy, htr⟩ := hg 3 _ rfl (by decide)
        obtain ⟨s, hs, hyy, _⟩ := DataW.trod_string Try.underlying9 htr
        injection hs with hs
        subst hs
        refine ⟨s, hcell, ?_⟩
        have := hwi s.data.toList.length (by
          simp only [DataW.weights, Try.underlying31]
          refine DataW.weights_mem_each (j := 3) (t := 9) (d := .lit (.string s.data.toList)) rfl ?_ _ ?_
          · rw [List.getElem?_map, hy, hyy]; rfl
          · simp [DataW.weights])
        rw [Array.length_toList] at this
        exact this
      obtain ⟨b, off, spot⟩ := a
      have hspot : spot = none := hsp (by omega)
      subst hspot
      rw [add_plain, add_plain] at c0 c1 c2 c3
      rw [reach_is] at y3
      exact ⟨⟨z0, z1, z2, s3⟩, ⟨b, off, rfl, c0, c1, c2, c3⟩, (show s3.size ≤ _ by omega)⟩
    obtain ⟨L, hL, hall⟩ := list_of len hex
    refine ⟨_, L, rfl, ⟨some a, m', by rw [hL], by omega, ⟨hm, fun h => by cases h⟩, fun j hj => ?_⟩, by rw [hL]; omega, fun f hf => ?_⟩
    · obtain ⟨⟨b, off, ha, hc⟩, _⟩ := hall j hj
      exact ⟨b, off, by rw [ha], hc⟩
    · obtain ⟨j, hj, rfl⟩ := List.mem_iff_getElem.1 hf
      exact (hall j hj).2
set_option maxRecDepth 100000 in
/-- An argument that is a net. -/
theorem open_net (hval : Value.okWide Try.prog W .any base 25 v) (h : DataW.Trod enc Try.prog W 0 (fun _ => true) true 25 v d p) (hw : ∀ q ∈ DataW.weights Try.prog 25 d, q ≤ reachBytes) :
    ∃ u L nx s, v = .agg (ncells u nx s) ∧ PV W u L ∧ (L.length + 1) * 40 ≤ 140737488355328 ∧ Fit L := by
  obtain ⟨cs, rfl, hsz⟩ := okWide_struct Try.underlying25 hval
  rw [cellsNet] at hsz
  obtain ⟨l⟩ := cs
  match l, hsz with
  | [c0, c1, c2, c3, c4, c5, c6, c7, c8, c9], _ =>
    obtain ⟨fuel, hf⟩ := h
    obtain ⟨ys, n, _, hx, _, hyl, hg⟩ := DataW.trod_struct Try.underlying25 hf
    match ys, hyl with
    | [y0, y1, y2], _ =>
      have h0 := hg 0 { name := "Bag", type := 22, offset := 0, embedded := false, tag := "", pkgPath := "", byteOffset := 0 } rfl
      have h1 := hg 1 { name := "Next", type := 3, offset := 1, embedded := false, tag := "", pkgPath := "", byteOffset := 24 } rfl
      have h2 := hg 2 { name := "Side", type := 23, offset := 2, embedded := false, tag := "", pkgPath := "", byteOffset := 32 } rfl
      have hc : Try.prog.cellsOf 22 = 1 := by kernel_rfl
      have hc8 : Try.prog.cellsOf 23 = 8 := by kernel_rfl
      have h0' : DataW.trod enc Try.prog W 0 (fun _ => true) true n 22 [c0] = some y0 := by simpa [Value.cells, hc] using h0
      have h1' : DataW.trod enc Try.prog W 0 (fun _ => true) true n 3 [c1] = some y1 := by simpa [Value.cells, cellsInt] using h1
      have h2' : DataW.trod enc Try.prog W 0 (fun _ => true) true n 23 [c2, c3, c4, c5, c6, c7, c8, c9] = some y2 := by simpa [Value.cells, hc8] using h2
      simp only [Prod.mk.injEq, List.map_cons, List.map_nil] at hx
      obtain ⟨u, L, hu, hv, hl, hfit⟩ := open_packets h0' (fun q hq => hw q (by
        rw [hx.1]
        simp only [DataW.weights, Try.underlying25]
        exact DataW.weights_mem_each (j := 0) (t := 22) (d := y0.1) rfl rfl q hq))
      injection hu with hu
      subst hu
      obtain ⟨z, hz, _, _⟩ := DataW.trod_int Try.underlying3 h1'
      injection hz with hz
      subst hz
      obtain ⟨xs, m, rfl, hx2, hl2, hxl, hall⟩ := DataW.trod_array Try.underlying23 h2'
      obtain ⟨x0, x1, x2, x3, x4, x5, x6, x7, rfl⟩ := list_8 xs hxl
      rw [cellsInt] at hall
      have one : ∀ (c : Value) (y : DataW H × List MemPlace), DataW.trod enc Try.prog W 0 (fun _ => true) true m 3 [c] = some y → ∃ n : Int, c = .int .i64 n := fun c y hy => by
        obtain ⟨x, e, _, _⟩ := DataW.trod_int Try.underlying3 hy
        exact ⟨x, by simpa using e⟩
      obtain ⟨n0, rfl⟩ := one c2 x0 (hall 0 (by decide))
      obtain ⟨n1, rfl⟩ := one c3 x1 (hall 1 (by decide))
      obtain ⟨n2, rfl⟩ := one c4 x2 (hall 2 (by decide))
      obtain ⟨n3, rfl⟩ := one c5 x3 (hall 3 (by decide))
      obtain ⟨n4, rfl⟩ := one c6 x4 (hall 4 (by decide))
      obtain ⟨n5, rfl⟩ := one c7 x5 (hall 5 (by decide))
      obtain ⟨n6, rfl⟩ := one c8 x6 (hall 6 (by decide))
      obtain ⟨n7, rfl⟩ := one c9 x7 (hall 7 (by decide))
      exact ⟨c0, L, z, fun k => match k with | 0 => n0 | 1 => n1 | 2 => n2 | 3 => n3 | 4 => n4 | 5 => n5 | 6 => n6 | _ => n7, rfl, hv, hl, hfit⟩
set_option maxRecDepth 100000 in
/-- An argument that is a sending. -/
theorem open_sending (hval : Value.okWide Try.prog W .any base 38 v) (h : DataW.Trod enc Try.prog W 0 (fun _ => true) true 38 v d p) (hw : ∀ q ∈ DataW.weights Try.prog 38 d, q ≤ reachBytes) :
    ∃ (a b : Int) (x : ByteArray), v = .agg #[.int .i64 a, .int .i64 b, .string x] ∧ x.size ≤ 9223372036854775807 := by
  obtain ⟨cs, rfl, hsz⟩ := okWide_struct Try.underlying38 hval
  rw [cellsSending] at hsz
  obtain ⟨l⟩ := cs
  match l, hsz with
  | [c0, c1, c2], _ =>
    obtain ⟨fuel, hf⟩ := h
    obtain ⟨ys, n, _, hx, _, hyl, hg⟩ := DataW.trod_struct Try.underlying38 hf
    match ys, hyl with
    | [y0, y1, y2], _ =>
      have h0 := hg 0 { name := "From", type := 3, offset := 0, embedded := false, tag := "", pkgPath := "", byteOffset := 0 } rfl
      have h1 := hg 1 { name := "To", type := 3, offset := 1, embedded := false, tag := "", pkgPath := "", byteOffset := 8 } rfl
      have h2 := hg 2 { name := "Body", type := 9, offset := 2, embedded := false, tag := "", pkgPath := "", byteOffset := 16 } rfl
      have h0' : DataW.trod enc Try.prog W 0 (fun _ => true) true n 3 [c0] = some y0 := by simpa [Value.cells, cellsInt] using h0
      have h1' : DataW.trod enc Try.prog W 0 (fun _ => true) true n 3 [c1] = some y1 := by simpa [Value.cells, cellsInt] using h1
      have h2' : DataW.trod enc Try.prog W 0 (fun _ => true) true n 9 [c2] = some y2 := by simpa [Value.cells, cellsStr] using h2
      simp only [Prod.mk.injEq, List.map_cons, List.map_nil] at hx
      obtain ⟨z0, hz0, _, _⟩ := DataW.trod_int Try.underlying3 h0'
      obtain ⟨z1, hz1, _, _⟩ := DataW.trod_int Try.underlying3 h1'
      obtain ⟨x, hz2, hy2, _⟩ := DataW.trod_string Try.underlying9 h2'
      injection hz0 with hz0
      injection hz1 with hz1
      injection hz2 with hz2
      subst hz0 hz1 hz2
      have hq := hw x.data.toList.length (by
        rw [hx.1]
        simp only [DataW.weights, Try.underlying38]
        refine DataW.weights_mem_each (j := 2) (t := 9) (d := .lit (.string x.data.toList)) rfl ?_ _ ?_
        · rw [hy2]; rfl
        · simp [DataW.weights])
      rw [Array.length_toList, reach_is] at hq
      exact ⟨z0, z1, x, rfl, by change x.size ≤ _ at hq; omega⟩
/-- An argument that is a vector. -/
theorem open_svec {B : Nat} {sp : Nat → Bool} {held : Bool} (hw : Value.okWide Try.prog W .any base 45 v) (h : DataW.Trod enc Try.prog W B sp held 45 v d p) : ∃ a : Nat → Nat, v = .agg (svec a) ∧ ∀ k, k < 8 → a k < 18446744073709551616 := by
  obtain ⟨cs, rfl, hsz, _⟩ : ∃ cs, v = .agg cs ∧ cs.size = Try.prog.cellsOf 45 ∧ Row.okWide Try.prog W .any base 45 cs := by
    simpa [Value.okWide, Try.underlying45] using hw
  rw [cellsVec] at hsz
  obtain ⟨fuel, hf⟩ := h
  obtain ⟨xs, m, rfl, hx, hl, hxl, hall⟩ := DataW.trod_array Try.underlying45 hf
  obtain ⟨l⟩ := cs
  obtain ⟨c0, c1, c2, c3, c4, c5, c6, c7, rfl⟩ := list_8 l (by simpa using hsz)
  obtain ⟨y0, y1, y2, y3, y4, y5, y6, y7, rfl⟩ := list_8 xs hxl
  have one : ∀ (c : Value) (y : DataW H × List MemPlace), DataW.trod enc Try.prog W B sp held m 43 [c] = some y → ∃ n : Nat, c = .int .u64 (n : Int) ∧ n < 18446744073709551616 := fun c y hy => by
    obtain ⟨x, e, _, w⟩ := DataW.trod_int Try.underlying43 hy
    have b := bounds_u64 w
    obtain ⟨n, rfl⟩ := Int.eq_ofNat_of_zero_le b.1
    exact ⟨n, by simpa using e, by omega⟩
  rw [cellsU64] at hall
  obtain ⟨n0, rfl, b0⟩ := one c0 y0 (hall 0 (by decide))
  obtain ⟨n1, rfl, b1⟩ := one c1 y1 (hall 1 (by decide))
  obtain ⟨n2, rfl, b2⟩ := one c2 y2 (hall 2 (by decide))
  obtain ⟨n3, rfl, b3⟩ := one c3 y3 (hall 3 (by decide))
  obtain ⟨n4, rfl, b4⟩ := one c4 y4 (hall 4 (by decide))
  obtain ⟨n5, rfl, b5⟩ := one c5 y5 (hall 5 (by decide))
  obtain ⟨n6, rfl, b6⟩ := one c6 y6 (hall 6 (by decide))
  obtain ⟨n7, rfl, b7⟩ := one c7 y7 (hall 7 (by decide))
  refine ⟨fun k => match k with | 0 => n0 | 1 => n1 | 2 => n2 | 3 => n3 | 4 => n4 | 5 => n5 | 6 => n6 | _ => n7, rfl, fun k hk => ?_⟩
  match k, hk with
  | 0, _ => exact b0
  | 1, _ => exact b1
  | 2, _ => exact b2
  | 3, _ => exact b3
  | 4, _ => exact b4
  | 5, _ => exact b5
  | 6, _ => exact b6
  | 7, _ => exact b7
end
end Go.Proofs.Ytfmfeokjnkbpeaa.Wi
