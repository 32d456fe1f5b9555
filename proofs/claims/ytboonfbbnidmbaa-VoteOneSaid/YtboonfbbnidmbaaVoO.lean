/- The arguments of the laws of votes: acceptors, sets, slices of numbers, of bytes, of votes: what they read as, and how long they are. -/
import Derived.Test.YtboonfbbnidmbaaVoV
import Derived.Test.YtboonfbbnidmbaaVoB
import Derived.Test.YtboonfbbnidmbaaOpn
namespace Go.Proofs.Ytboonfbbnidmbaa
open Go.ChangeShapes Go.WideShapes Go.RowKit Go.Deep Vo
set_option linter.unusedSimpArgs false
set_option linter.unusedVariables false

theorem cellsVo_i64 : Try.prog.cellsOf 3 = 1 := by kernel_rfl
theorem bytesVo_i64 : Try.prog.bytesOf 3 = 8 := by kernel_rfl
theorem cellsVo_u64 : Try.prog.cellsOf 22 = 1 := by kernel_rfl
theorem bytesVo_u64 : Try.prog.bytesOf 22 = 8 := by kernel_rfl
theorem cellsVo_u8 : Try.prog.cellsOf 5 = 1 := by kernel_rfl
theorem bytesVo_u8 : Try.prog.bytesOf 5 = 1 := by kernel_rfl
theorem cellsVo_str : Try.prog.cellsOf 9 = 1 := by kernel_rfl
theorem cellsVo_acc : Try.prog.cellsOf 24 = 3 := by kernel_rfl
theorem cellsVo_vt : Try.prog.cellsOf 44 = 4 := by kernel_rfl
theorem bytesVo_vt : Try.prog.bytesOf 44 = 40 := by kernel_rfl
theorem cellsVo_set : Try.prog.cellsOf 35 = 8 := by kernel_rfl
theorem cellsVo_bool : Try.prog.cellsOf 4 = 1 := by kernel_rfl
theorem vlist_of8 {α : Type} (l : List α) (h : l.length = 8) : ∃ a b c d e f g i, l = [a, b, c, d, e, f, g, i] := by
  match l, h with
  | [a, b, c, d, e, f, g, i], _ => exact ⟨a, b, c, d, e, f, g, i, rfl⟩
section
variable {H : Type} {enc : TypeId × Value → H} {W : World} {base : Nat} {v : Value} {d : DataW H} {p : List MemPlace}
set_option maxRecDepth 100000 in
/-- An argument that is a slice of numbers. -/
theorem open_nv (hval : Value.okWide Try.prog W .any base 49 v) (h : DataW.Trod enc Try.prog W 0 (fun _ => true) true 49 v d p) (hw : ∀ q ∈ DataW.weights Try.prog 49 d, q ≤ reachBytes) :
    ∃ K : List Int, NV W v K ∧ (K.length + 1) * 8 ≤ 140737488355328 ∧ ∀ z ∈ K, -9223372036854775808 ≤ z ∧ z ≤ 9223372036854775807 := by
  obtain ⟨a0, len0, cap0, rfl⟩ := okWide_slice Try.underlying49 hval
  obtain ⟨fuel, hf⟩ := h
  rcases open_slice Try.underlying49 hf with ⟨hcs, _⟩ | ⟨a, len, m', m2, n, D, Pl, hcs, _, hl, hm, hmm, hx, hi⟩
  · rw [show (Value.slice a0 len0 cap0) = .slice none 0 0 by simpa [Value.cells] using hcs]
    exact ⟨[], SL.nil W 1, by decide, fun z hz => by cases hz⟩
  · rw [show (Value.slice a0 len0 cap0) = .slice (some a) len m' by simpa [Value.cells] using hcs]
    simp only [if_true] at hmm
    subst hmm
    rw [cellsVo_i64] at hi hx
    simp only [Prod.mk.injEq] at hx
    have hd := hx.1
    rw [hd] at hw
    have hle := hw ((((List.range len).map D).length + ((List.range (m2 - len)).map fun j => D (len + j)).length) * Try.prog.bytesOf 3) (by
      simp only [DataW.weights, Try.underlying49]; exact List.mem_cons_self ..)
    rw [bytesVo_i64, List.length_map, List.length_range, reach_is] at hle
    have hsp : 0 < len → a.spot = none := fun h0 => spot_of (by decide) hi (show 0 < m2 by omega)
    have hex : ∀ i, i < len → ∃ z : Int, ∃ b off, a = ⟨b, off, none⟩ ∧ W.cell? ⟨b, off + i, none⟩ = some (icell z) ∧ -9223372036854775808 ≤ z ∧ z ≤ 9223372036854775807 := fun i hil => by
      obtain ⟨cs', hc, ht⟩ := hi i (by omega)
      obtain ⟨_, hcl, hat⟩ := World.cells?_some hc
      obtain ⟨z, hs, _, hwf⟩ := DataW.trod_int Try.underlying3 ht
      have b := bounds_i64 hwf
      have c0 := hat 0 (by decide)
      rw [hs] at c0
      obtain ⟨b', off, spot⟩ := a
      have hspot : spot = none := hsp (by omega)
      subst hspot
      rw [add_plain, add_plain, Nat.mul_one] at c0
      exact ⟨z, b', off, rfl, c0, by omega, by omega⟩
    obtain ⟨L, hL, hall⟩ := list_of len hex
    refine ⟨L, ⟨some a, m2, by rw [hL], by omega, ⟨hm, fun h => by cases h⟩, by rw [List.length_map, Nat.mul_one], fun j u hj => ?_⟩, by rw [hL]; omega, fun z hz => ?_⟩
    · rw [List.getElem?_map] at hj
      obtain ⟨hjl, hj⟩ : ∃ h : j < L.length, icell L[j] = u := by
        rcases q : L[j]? with _ | y
        · rw [q] at hj; cases hj
        · rw [q] at hj
          obtain ⟨h1, h2⟩ := List.getElem?_eq_some_iff.1 q
          exact ⟨h1, by rw [h2]; exact Option.some.inj hj⟩
      obtain ⟨b, off, ha, hc, _⟩ := hall j hjl
      exact ⟨b, off, by rw [ha], by rw [← hj]; exact hc⟩
    · obtain ⟨j, hj, rfl⟩ := List.mem_iff_getElem.1 hz
      obtain ⟨_, _, _, _, hp⟩ := hall j hj
      exact hp
set_option maxRecDepth 100000 in
/-- An argument that is a slice of numbers. -/
theorem open_uv (hval : Value.okWide Try.prog W .any base 33 v) (h : DataW.Trod enc Try.prog W 0 (fun _ => true) true 33 v d p) (hw : ∀ q ∈ DataW.weights Try.prog 33 d, q ≤ reachBytes) :
    ∃ K : List Nat, UV W v K ∧ (K.length + 1) * 8 ≤ 140737488355328 ∧ ∀ z ∈ K, z < 18446744073709551616 := by
  obtain ⟨a0, len0, cap0, rfl⟩ := okWide_slice Try.underlying33 hval
  obtain ⟨fuel, hf⟩ := h
  rcases open_slice Try.underlying33 hf with ⟨hcs, _⟩ | ⟨a, len, m', m2, n, D, Pl, hcs, _, hl, hm, hmm, hx, hi⟩
  · rw [show (Value.slice a0 len0 cap0) = .slice none 0 0 by simpa [Value.cells] using hcs]
    exact ⟨[], SL.nil W 1, by decide, fun z hz => by cases hz⟩
  · rw [show (Value.slice a0 len0 cap0) = .slice (some a) len m' by simpa [Value.cells] using hcs]
    simp only [if_true] at hmm
    subst hmm
    rw [cellsVo_u64] at hi hx
    simp only [Prod.mk.injEq] at hx
    have hd := hx.1
    rw [hd] at hw
    have hle := hw ((((List.range len).map D).length + ((List.range (m2 - len)).map fun j => D (len + j)).length) * Try.prog.bytesOf 22) (by
      simp only [DataW.weights, Try.underlying33]; exact List.mem_cons_self ..)
    rw [bytesVo_u64, List.length_map, List.length_range, reach_is] at hle
    have hsp : 0 < len → a.spot = none := fun h0 => spot_of (by decide) hi (show 0 < m2 by omega)
    have hex : ∀ i, i < len → ∃ z : Nat, ∃ b off, a = ⟨b, off, none⟩ ∧ W.cell? ⟨b, off + i, none⟩ = some (ucell z) ∧ z < 18446744073709551616 := fun i hil => by
      obtain ⟨cs', hc, ht⟩ := hi i (by omega)
      obtain ⟨_, hcl, hat⟩ := World.cells?_some hc
      obtain ⟨z, hs, _, hwf⟩ := DataW.trod_int Try.underlying22 ht
      have b := bounds_u64 hwf
      have c0 := hat 0 (by decide)
      rw [hs] at c0
      obtain ⟨b', off, spot⟩ := a
      have hspot : spot = none := hsp (by omega)
      subst hspot
      rw [add_plain, add_plain, Nat.mul_one] at c0
      refine ⟨z.toNat, b', off, rfl, ?_, by omega⟩
      show _ = some (Value.int .u64 ((z.toNat : Nat) : Int))
      rw [show ((z.toNat : Nat) : Int) = z by omega]
      exact c0
    obtain ⟨L, hL, hall⟩ := list_of len hex
    refine ⟨L, ⟨some a, m2, by rw [hL], by omega, ⟨hm, fun h => by cases h⟩, by rw [List.length_map, Nat.mul_one], fun j u hj => ?_⟩, by rw [hL]; omega, fun z hz => ?_⟩
    · rw [List.getElem?_map] at hj
      obtain ⟨hjl, hj⟩ : ∃ h : j < L.length, ucell L[j] = u := by
        rcases q : L[j]? with _ | y
        · rw [q] at hj; cases hj
        · rw [q] at hj
          obtain ⟨h1, h2⟩ := List.getElem?_eq_some_iff.1 q
          exact ⟨h1, by rw [h2]; exact Option.some.inj hj⟩
      obtain ⟨b, off, ha, hc, _⟩ := hall j hjl
      exact ⟨b, off, by rw [ha], by rw [← hj]; exact hc⟩
    · obtain ⟨j, hj, rfl⟩ := List.mem_iff_getElem.1 hz
      obtain ⟨_, _, _, _, hp⟩ := hall j hj
      exact hp
set_option maxRecDepth 100000 in
/-- An argument that is a slice of numbers. -/
theorem open_yb (hval : Value.okWide Try.prog W .any base 36 v) (h : DataW.Trod enc Try.prog W 0 (fun _ => true) true 36 v d p) (hw : ∀ q ∈ DataW.weights Try.prog 36 d, q ≤ reachBytes) :
    ∃ K : List Nat, YB W v K ∧ (K.length + 1) * 1 ≤ 140737488355328 ∧ ∀ z ∈ K, z < 256 := by
  obtain ⟨a0, len0, cap0, rfl⟩ := okWide_slice Try.underlying36 hval
  obtain ⟨fuel, hf⟩ := h
  rcases open_slice Try.underlying36 hf with ⟨hcs, _⟩ | ⟨a, len, m', m2, n, D, Pl, hcs, _, hl, hm, hmm, hx, hi⟩
  · rw [show (Value.slice a0 len0 cap0) = .slice none 0 0 by simpa [Value.cells] using hcs]
    exact ⟨[], SL.nil W 1, by decide, fun z hz => by cases hz⟩
  · rw [show (Value.slice a0 len0 cap0) = .slice (some a) len m' by simpa [Value.cells] using hcs]
    simp only [if_true] at hmm
    subst hmm
    rw [cellsVo_u8] at hi hx
    simp only [Prod.mk.injEq] at hx
    have hd := hx.1
    rw [hd] at hw
    have hle := hw ((((List.range len).map D).length + ((List.range (m2 - len)).map fun j => D (len + j)).length) * Try.prog.bytesOf 5) (by
      simp only [DataW.weights, Try.underlying36]; exact List.mem_cons_self ..)
    rw [bytesVo_u8, List.length_map, List.length_range, reach_is] at hle
    have hsp : 0 < len → a.spot = none := fun h0 => spot_of (by decide) hi (show 0 < m2 by omega)
    have hex : ∀ i, i < len → ∃ z : Nat, ∃ b off, a = ⟨b, off, none⟩ ∧ W.cell? ⟨b, off + i, none⟩ = some (ycell z) ∧ z < 256 := fun i hil => by
      obtain ⟨cs', hc, ht⟩ := hi i (by omega)
      obtain ⟨_, hcl, hat⟩ := World.cells?_some hc
      obtain ⟨z, hs, _, hwf⟩ := DataW.trod_int Try.underlying5 ht
      have b := bounds_u8 hwf
      have c0 := hat 0 (by decide)
      rw [hs] at c0
      obtain ⟨b', off, spot⟩ := a
      have hspot : spot = none := hsp (by omega)
      subst hspot
      rw [add_plain, add_plain, Nat.mul_one] at c0
      refine ⟨z.toNat, b', off, rfl, ?_, by omega⟩
      show _ = some (Value.int .u8 ((z.toNat : Nat) : Int))
      rw [show ((z.toNat : Nat) : Int) = z by omega]
      exact c0
    obtain ⟨L, hL, hall⟩ := list_of len hex
    refine ⟨L, ⟨some a, m2, by rw [hL], by omega, ⟨hm, fun h => by cases h⟩, by rw [List.length_map, Nat.mul_one], fun j u hj => ?_⟩, by rw [hL]; omega, fun z hz => ?_⟩
    · rw [List.getElem?_map] at hj
      obtain ⟨hjl, hj⟩ : ∃ h : j < L.length, ycell L[j] = u := by
        rcases q : L[j]? with _ | y
        · rw [q] at hj; cases hj
        · rw [q] at hj
          obtain ⟨h1, h2⟩ := List.getElem?_eq_some_iff.1 q
          exact ⟨h1, by rw [h2]; exact Option.some.inj hj⟩
      obtain ⟨b, off, ha, hc, _⟩ := hall j hjl
      exact ⟨b, off, by rw [ha], by rw [← hj]; exact hc⟩
    · obtain ⟨j, hj, rfl⟩ := List.mem_iff_getElem.1 hz
      obtain ⟨_, _, _, _, hp⟩ := hall j hj
      exact hp
set_option maxRecDepth 100000 in
/-- An argument that is an acceptor. -/
theorem open_acc (hval : Value.okWide Try.prog W .any base 24 v) (h : DataW.Trod enc Try.prog W 0 (fun _ => true) true 24 v d p) (hw : ∀ q ∈ DataW.weights Try.prog 24 d, q ≤ reachBytes) :
    ∃ (p a : Nat) (s : ByteArray), v = acv p a s ∧ p < 18446744073709551616 ∧ a < 18446744073709551616 ∧ s.size ≤ 140737488351232 := by
  obtain ⟨cs, rfl, hsz⟩ := okWide_struct Try.underlying24 hval
  rw [cellsVo_acc] at hsz
  obtain ⟨l⟩ := cs
  match l, hsz with
  | [c0, c1, c2], _ =>
    obtain ⟨fuel, hf⟩ := h
    obtain ⟨ys, n, _, hx, _, hyl, hg⟩ := DataW.trod_struct Try.underlying24 hf
    match ys, hyl with
    | [y0, y1, y2], _ =>
      have h0 := hg 0 ({ name := "Promised", type := 22, offset := 0, embedded := false, tag := "", pkgPath := "", byteOffset := 0 } : Field) rfl
      have h1 := hg 1 ({ name := "At", type := 22, offset := 1, embedded := false, tag := "", pkgPath := "", byteOffset := 8 } : Field) rfl
      have h2 := hg 2 ({ name := "Value", type := 9, offset := 2, embedded := false, tag := "", pkgPath := "", byteOffset := 16 } : Field) rfl
      have h0' : DataW.trod enc Try.prog W 0 (fun _ => true) true n 22 [c0] = some y0 := by simpa [Value.cells, cellsVo_u64] using h0
      have h1' : DataW.trod enc Try.prog W 0 (fun _ => true) true n 22 [c1] = some y1 := by simpa [Value.cells, cellsVo_u64] using h1
      have h2' : DataW.trod enc Try.prog W 0 (fun _ => true) true n 9 [c2] = some y2 := by simpa [Value.cells, cellsVo_str] using h2
      simp only [List.map_cons, List.map_nil, Prod.mk.injEq] at hx
      obtain ⟨z0, hz0, _, w0⟩ := DataW.trod_int Try.underlying22 h0'
      obtain ⟨z1, hz1, _, w1⟩ := DataW.trod_int Try.underlying22 h1'
      obtain ⟨s2, hz2, hy2, _⟩ := DataW.trod_string Try.underlying9 h2'
      injection hz0 with hz0
      injection hz1 with hz1
      injection hz2 with hz2
      subst hz0 hz1 hz2
      have b0 := bounds_u64 w0
      have b1 := bounds_u64 w1
      have hq := hw s2.data.toList.length (by
        rw [hx.1]
        simp only [DataW.weights, Try.underlying24]
        refine DataW.weights_mem_each (j := 2) (t := 9) (d := .lit (.string s2.data.toList)) rfl ?_ _ ?_
        · rw [hy2]; rfl
        · simp [DataW.weights])
      rw [Array.length_toList, reach_is] at hq
      obtain ⟨m0, rfl⟩ := Int.eq_ofNat_of_zero_le b0.1
      obtain ⟨m1, rfl⟩ := Int.eq_ofNat_of_zero_le b1.1
      exact ⟨m0, m1, s2, rfl, by omega, by omega, hq⟩
set_option maxRecDepth 100000 in
/-- An argument that is a set of members. -/
theorem open_set8 (hw : Value.okWide Try.prog W .any base 35 v) (h : DataW.Trod enc Try.prog W 0 (fun _ => true) true 35 v d p) : ∃ S : Nat → Bool, v = .agg (setc S) := by
  obtain ⟨cs, rfl, hsz, _⟩ : ∃ cs, v = .agg cs ∧ cs.size = Try.prog.cellsOf 35 ∧ Row.okWide Try.prog W .any base 35 cs := by
    simpa [Value.okWide, Try.underlying35] using hw
  rw [cellsVo_set] at hsz
  obtain ⟨fuel, hf⟩ := h
  obtain ⟨xs, m, rfl, hx, hl, hxl, hall⟩ := DataW.trod_array Try.underlying35 hf
  obtain ⟨l⟩ := cs
  obtain ⟨c0, c1, c2, c3, c4, c5, c6, c7, rfl⟩ := vlist_of8 l (by simpa using hsz)
  obtain ⟨y0, y1, y2, y3, y4, y5, y6, y7, rfl⟩ := vlist_of8 xs hxl
  have one : ∀ (c : Value) (y : DataW H × List MemPlace), DataW.trod enc Try.prog W 0 (fun _ => true) true m 4 [c] = some y → ∃ b : Bool, c = .bool b := fun c y hy => by
    obtain ⟨b, e, _⟩ := DataW.trod_bool Try.underlying4 hy
    exact ⟨b, by simpa using e⟩
  rw [cellsVo_bool] at hall
  obtain ⟨n0, rfl⟩ := one c0 y0 (hall 0 (by decide))
  obtain ⟨n1, rfl⟩ := one c1 y1 (hall 1 (by decide))
  obtain ⟨n2, rfl⟩ := one c2 y2 (hall 2 (by decide))
  obtain ⟨n3, rfl⟩ := one c3 y3 (hall 3 (by decide))
  obtain ⟨n4, rfl⟩ := one c4 y4 (hall 4 (by decide))
  obtain ⟨n5, rfl⟩ := one c5 y5 (hall 5 (by decide))
  obtain ⟨n6, rfl⟩ := one c6 y6 (hall 6 (by decide))
  obtain ⟨n7, rfl⟩ := one c7 y7 (hall 7 (by decide))
  exact ⟨fun k => match k with | 0 => n0 | 1 => n1 | 2 => n2 | 3 => n3 | 4 => n4 | 5 => n5 | 6 => n6 | _ => n7, rfl⟩
theorem vcells_at' {w : World} {B : Nat} {a : Addr} {k : Nat} {cs : List Value} (hc : w.cells? B a k = some cs) (j : Nat) (hj : j < k) : w.cell? (a.add j) = cs[j]? := by
  obtain ⟨_, hl, hat⟩ := World.cells?_some hc
  exact hat j hj
set_option maxRecDepth 100000 in
theorem trod_vt {m : Nat} {cs : List Value} {x : DataW H × List MemPlace} (hl : cs.length = 4) (hf : DataW.trod enc Try.prog W 0 (fun _ => true) true m 44 cs = some x) (hw : ∀ q ∈ DataW.weights Try.prog 44 x.1, q ≤ reachBytes) :
    ∃ o : Vt, cs = vtc o ∧ FitVt o := by
  obtain ⟨ys, n, _, hx, _, hyl, hg⟩ := DataW.trod_struct Try.underlying44 hf
  match cs, hl with
  | [c0, c1, c2, c3], _ =>
    match ys, hyl with
    | [y0, y1, y2, y3], _ =>
      have h0 := hg 0 ({ name := "From", type := 3, offset := 0, embedded := false, tag := "", pkgPath := "", byteOffset := 0 } : Field) rfl
      have h1 := hg 1 ({ name := "Ballot", type := 22, offset := 1, embedded := false, tag := "", pkgPath := "", byteOffset := 8 } : Field) rfl
      have h2 := hg 2 ({ name := "At", type := 22, offset := 2, embedded := false, tag := "", pkgPath := "", byteOffset := 16 } : Field) rfl
      have h3 := hg 3 ({ name := "Value", type := 9, offset := 3, embedded := false, tag := "", pkgPath := "", byteOffset := 24 } : Field) rfl
      have h0' : DataW.trod enc Try.prog W 0 (fun _ => true) true n 3 [c0] = some y0 := by simpa [cellsVo_i64] using h0
      have h1' : DataW.trod enc Try.prog W 0 (fun _ => true) true n 22 [c1] = some y1 := by simpa [cellsVo_u64] using h1
      have h2' : DataW.trod enc Try.prog W 0 (fun _ => true) true n 22 [c2] = some y2 := by simpa [cellsVo_u64] using h2
      have h3' : DataW.trod enc Try.prog W 0 (fun _ => true) true n 9 [c3] = some y3 := by simpa [cellsVo_str] using h3
      simp only [List.map_cons, List.map_nil] at hx
      obtain ⟨z0, hz0, _, w0⟩ := DataW.trod_int Try.underlying3 h0'
      obtain ⟨z1, hz1, _, w1⟩ := DataW.trod_int Try.underlying22 h1'
      obtain ⟨z2, hz2, _, w2⟩ := DataW.trod_int Try.underlying22 h2'
      obtain ⟨s3, hz3, hy3, _⟩ := DataW.trod_string Try.underlying9 h3'
      injection hz0 with hz0
      injection hz1 with hz1
      injection hz2 with hz2
      injection hz3 with hz3
      subst hz0 hz1 hz2 hz3
      have b0 := bounds_i64 w0
      have b1 := bounds_u64 w1
      have b2 := bounds_u64 w2
      have hq := hw s3.data.toList.length (by
        rw [hx]
        simp only [DataW.weights, Try.underlying44]
        refine DataW.weights_mem_each (j := 3) (t := 9) (d := .lit (.string s3.data.toList)) rfl ?_ _ ?_
        · rw [hy3]; rfl
        · simp [DataW.weights])
      rw [Array.length_toList, reach_is] at hq
      obtain ⟨m1, rfl⟩ := Int.eq_ofNat_of_zero_le b1.1
      obtain ⟨m2, rfl⟩ := Int.eq_ofNat_of_zero_le b2.1
      exact ⟨⟨z0, m1, m2, s3⟩, rfl, ⟨by simp only []; omega, by simp only []; omega⟩, by simp only []; omega, by simp only []; omega, by change s3.size ≤ _ at hq; simp only []; omega⟩
set_option maxRecDepth 100000 in
/-- An argument that is a slice of votes. -/
theorem open_vts (hval : Value.okWide Try.prog W .any base 39 v) (h : DataW.Trod enc Try.prog W 0 (fun _ => true) true 39 v d p) (hw : ∀ q ∈ DataW.weights Try.prog 39 d, q ≤ reachBytes) :
    ∃ L : List Vt, VV W v L ∧ (∀ o ∈ L, FitVt o) ∧ (L.length + 1) * 40 ≤ 140737488355328 := by
  obtain ⟨a0, len0, cap0, rfl⟩ := okWide_slice Try.underlying39 hval
  obtain ⟨fuel, hf⟩ := h
  rcases open_slice Try.underlying39 hf with ⟨hcs, _⟩ | ⟨a, len, cap, m2, n, D, Pl, hcs, _, hl, hm, hmm, hx, hi⟩
  · rw [show (Value.slice a0 len0 cap0) = .slice none 0 0 by simpa [Value.cells] using hcs]
    exact ⟨[], VV.nil W, (fun o ho => by cases ho), by decide⟩
  · rw [show (Value.slice a0 len0 cap0) = .slice (some a) len cap by simpa [Value.cells] using hcs]
    simp only [if_true] at hmm
    subst hmm
    rw [cellsVo_vt] at hi
    simp only [Prod.mk.injEq] at hx
    rw [hx.1] at hw
    have hle := hw ((((List.range len).map D).length + ((List.range (m2 - len)).map fun j => D (len + j)).length) * Try.prog.bytesOf 44) (by
      simp only [DataW.weights, Try.underlying39]; exact List.mem_cons_self ..)
    rw [bytesVo_vt, List.length_map, List.length_range, reach_is] at hle
    have hel : ∀ i, i < len → ∀ q ∈ DataW.weights Try.prog 44 (D i), q ≤ reachBytes := fun i hil q hq => hw q (by
      simp only [DataW.weights, Try.underlying39]
      exact List.mem_cons_of_mem _ (List.mem_append.2 (.inl (weightsAll_mem (List.mem_map_of_mem (List.mem_range.2 hil)) hq))))
    have hsp : 0 < len → a.spot = none := fun h0 => spot_of (by decide) hi (show 0 < m2 by omega)
    have hex : ∀ i, i < len → ∃ o : Vt, (∃ b off, a = ⟨b, off, none⟩ ∧ VCell W b (off + i * 4) o) ∧ FitVt o := fun i hil => by
      obtain ⟨cs', hc, ht⟩ := hi i (by omega)
      obtain ⟨_, hl4, _⟩ := World.cells?_some hc
      obtain ⟨o, rfl, ho⟩ := trod_vt hl4 ht (hel i hil)
      have c0 := vcells_at' hc 0 (by decide)
      have c1 := vcells_at' hc 1 (by decide)
      have c2 := vcells_at' hc 2 (by decide)
      have c3 := vcells_at' hc 3 (by decide)
      obtain ⟨b, off, spot⟩ := a
      have hspot : spot = none := hsp (by omega)
      subst hspot
      rw [add_plain, add_plain] at c0 c1 c2 c3
      exact ⟨o, ⟨b, off, rfl, c0, c1, c2, c3⟩, ho⟩
    obtain ⟨L, hL, hall⟩ := list_of len hex
    refine ⟨L, ?_, fun o ho => ?_, by rw [hL]; omega⟩
    · have hv : VV W (.slice (some a) L.length m2) L := VV.of (by omega) hm (fun h => by cases h) (fun j hj => by
        obtain ⟨⟨b, off, ha, hc⟩, _⟩ := hall j hj
        exact ⟨b, off, by rw [ha], hc⟩)
      rw [hL] at hv
      exact hv
    · obtain ⟨j, hj, rfl⟩ := List.mem_iff_getElem.1 ho
      exact (hall j hj).2
end
end Go.Proofs.Ytboonfbbnidmbaa
