/- The arguments of the tables' laws: pairs: what they read as, and how long they are; the listed table. -/
import Derived.Test.YtnihnkcmmnlaaaaDoorTabA
import Derived.Test.YtnihnkcmmnlaaaaDoorCodeA
import Derived.Test.YtnihnkcmmnlaaaaDoorOpn
namespace Go.Proofs.YtnihnkcmmnlaaaaDoor
open Go.ChangeShapes Go.WideShapes Go.RowKit Go.Deep

theorem cellsPair : Tryd.prog.cellsOf 25 = 2 := by kernel_rfl
theorem bytesPair : Tryd.prog.bytesOf 25 = 32 := by kernel_rfl
section
variable {H : Type} {enc : TypeId × Value → H} {W : World} {base : Nat} {v : Value} {d : DataW H} {p : List MemPlace}
set_option maxRecDepth 100000 in
/-- An argument that is a slice of pairs. -/
theorem open_pairs (hval : Value.okWide Tryd.prog W .any base 22 v) (h : DataW.Trod enc Tryd.prog W 0 (fun _ => true) true 22 v d p) (hw : ∀ q ∈ DataW.weights Tryd.prog 22 d, q ≤ reachBytes) :
    ∃ L, PV W v L ∧ (L.length + 1) * 32 ≤ 140737488355328 ∧ (∀ p ∈ L, p.key.size ≤ 281474976710656 ∧ p.val.size ≤ 281474976710656) := by
  obtain ⟨a0, len0, cap0, rfl⟩ := okWide_slice Tryd.underlying22 hval
  obtain ⟨fuel, hf⟩ := h
  rcases open_slice Tryd.underlying22 hf with ⟨hcs, _⟩ | ⟨a, len, m', m2, n, D, Pl, hcs, _, hl, hm, hmm, hx, hi⟩
  · simp only [Value.cells, List.cons.injEq, and_true] at hcs
    rw [show (Value.slice a0 len0 cap0) = .slice none 0 0 by simpa using hcs]
    exact ⟨[], PV.nil W, by decide, fun o ho => by cases ho⟩
  · have hcs' : (Value.slice a0 len0 cap0) = .slice (some a) len m' := by simpa [Value.cells] using hcs
    rw [hcs']
    simp only [if_true] at hmm
    subst hmm
    rw [cellsPair] at hi hx
    simp only [Prod.mk.injEq] at hx
    have hd := hx.1
    rw [hd] at hw
    have hle := hw ((((List.range len).map D).length + ((List.range (m2 - len)).map fun j => D (len + j)).length) * Tryd.prog.bytesOf 25) (by
      simp only [DataW.weights, Tryd.underlying22]; exact List.mem_cons_self ..)
    rw [bytesPair, List.length_map, List.length_range, reach_is] at hle
    have hel : ∀ i, i < len → ∀ q ∈ DataW.weights Tryd.prog 25 (D i), q ≤ reachBytes := fun i hil q hq => hw q (by
      simp only [DataW.weights, Tryd.underlying22]
      exact List.mem_cons_of_mem _ (List.mem_append.2 (.inl (weightsAll_mem (List.mem_map_of_mem (List.mem_range.2 hil)) hq))))
    have hsp : 0 < len → a.spot = none := fun h0 => spot_of (by decide) hi (show 0 < m2 by omega)
    have hex : ∀ i, i < len → ∃ f : PR, (∃ b off, a = ⟨b, off, none⟩ ∧ PCell W b (off + i * 2) f) ∧ (f.key.size ≤ 281474976710656 ∧ f.val.size ≤ 281474976710656) := fun i hil => by
      obtain ⟨cs', hc, ht⟩ := hi i (by omega)
      obtain ⟨ys, n', hd, hyl, hg⟩ := open_row Tryd.underlying25 (by kernel_rfl) rfl hc ht
      have hD : D i = .agg (ys.map (·.1)) := hd
      have hwi := hel i hil
      rw [hD] at hwi
      have one : ∀ j f, (#[({ name := "Key", type := 9, offset := 0, embedded := false, tag := "", pkgPath := "", byteOffset := 0 } : Field), { name := "Value", type := 9, offset := 1, embedded := false, tag := "", pkgPath := "", byteOffset := 16 }] : Array Field)[j]? = some f → f.type = 9 → j < 2 → ∃ s : ByteArray, W.cell? ((a.add (i * 2)).add j) = some (.string s) ∧ s.size ≤ reachBytes := fun j f hj hft hj3 => by
        obtain ⟨u, y, hcell, hy, htr⟩ := hg j f hj hj3
        rw [hft] at htr
        obtain ⟨s, hs, hyy, _⟩ := DataW.trod_string Tryd.underlying9 htr
        injection hs with hs
        subst hs
        refine ⟨s, hcell, ?_⟩
        have := hwi s.data.toList.length (by
          simp only [DataW.weights, Tryd.underlying25]
          refine DataW.weights_mem_each (j := j) (t := 9) (d := .lit (.string s.data.toList)) ?_ ?_ _ ?_
          · rw [List.getElem?_map, Array.getElem?_toList, hj, Option.map_some, hft]
          · rw [List.getElem?_map, hy, hyy]; rfl
          · simp [DataW.weights])
        rw [Array.length_toList] at this
        exact this
      obtain ⟨s0, c0, z0⟩ := one 0 _ rfl rfl (by decide)
      obtain ⟨s1, c1, z1⟩ := one 1 _ rfl rfl (by decide)
      obtain ⟨b, off, spot⟩ := a
      have hspot : spot = none := hsp (by omega)
      subst hspot
      rw [add_plain, add_plain] at c0 c1
      rw [reach_is] at z0 z1
      refine ⟨⟨s0, s1⟩, ⟨b, off, rfl, c0, c1⟩, by show s0.size ≤ _; omega, by show s1.size ≤ _; omega⟩
    obtain ⟨L, hL, hall⟩ := list_of len hex
    refine ⟨L, ⟨some a, m2, by rw [hL], by omega, ⟨hm, fun h => by cases h⟩, fun j hj => ?_⟩, by rw [hL]; omega, fun f hf => ?_⟩
    · obtain ⟨⟨b, off, ha, hc⟩, _⟩ := hall j hj
      exact ⟨b, off, by rw [ha], hc⟩
    · obtain ⟨j, hj, rfl⟩ := List.mem_iff_getElem.1 hf
      exact (hall j hj).2
theorem halves6_laid (h : laidMetH Tryd.prog [("levee/code.halves", Rows.laid_levee_code_halves)] W) : Halves W := by
  have ht : Lib.TabIs Tryd.prog W "levee/code.halves" .u32 (Crc.tab.map Int.ofNat) :=
    Lib.tabIs_of_head (rest := []) gHalves gHalvesType Tryd.underlying83 Tryd.underlying69 cellsU32 cellsHalves h
  intro k hk
  have h1 := ht.cell gHalves k (by simpa [Crc.tab] using hk)
  have h2 : ∀ j : Fin 16, (Crc.tab.map Int.ofNat).getD j.val 0 = (Crc.halfT j.val : Int) := by decide
  rw [h1, h2 ⟨k, hk⟩]
end
end Go.Proofs.YtnihnkcmmnlaaaaDoor
