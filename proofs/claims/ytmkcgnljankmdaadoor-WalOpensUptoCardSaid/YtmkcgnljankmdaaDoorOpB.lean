/- The arguments of the log's laws: a disk whose files are no longer than its datum's bulk; the listed table. -/
import Derived.Test.YtmkcgnljankmdaaDoorLawO
import Derived.Test.YtmkcgnljankmdaaDoorCodeA
import Derived.Test.YtmkcgnljankmdaaDoorWalJ
namespace Go.Proofs.YtmkcgnljankmdaaDoor
open Go.ChangeShapes Go.WideShapes Go.RowKit Go.Deep

section
variable {H : Type} {enc : TypeId × Value → H} {W : World} {base : Nat} {v : Value} {d : DataW H} {p : List MemPlace}
theorem bulk_mem : ∀ {l : List (DataW H)} {x : DataW H}, x ∈ l → Rows.uptoBulk x ≤ Rows.uptoBulkAll l
  | y :: r, x, h => by
    simp only [Rows.uptoBulkAll]
    rcases List.mem_cons.1 h with rfl | h
    · omega
    · have := bulk_mem h
      omega
set_option maxRecDepth 100000 in
theorem open_files_b {m : Nat} {cs : List Value} {x : DataW H × List MemPlace} (hf : DataW.trod enc Tryd.prog W 0 (fun _ => true) true m 22 cs = some x) (hw : ∀ q ∈ DataW.weights Tryd.prog 22 x.1, q ≤ reachBytes) :
    ∃ u L, cs = [u] ∧ FV W u L ∧ (L.length + 1) * 48 ≤ 140737488355328 ∧ Fit L ∧ ∀ f ∈ L, f.size ≤ Rows.uptoBulk x.1 := by
  rcases open_slice Tryd.underlying22 hf with ⟨rfl, _⟩ | ⟨a, len, cap, m', n, D, Pl, rfl, _, hl, hm, hmm, hx, hi⟩
  · exact ⟨_, [], rfl, FV.nil W, by decide, (fun f hf => by cases hf), fun f hf => by cases hf⟩
  · simp only [if_true] at hmm
    subst hmm
    rw [cellsFile] at hi
    rw [hx] at hw
    have hle := hw ((((List.range len).map D).length + ((List.range (m' - len)).map fun j => D (len + j)).length) * Tryd.prog.bytesOf 46) (by
      simp only [DataW.weights, Tryd.underlying22]; exact List.mem_cons_self ..)
    rw [bytesFile, List.length_map, List.length_range, reach_is] at hle
    have hel : ∀ i, i < len → ∀ q ∈ DataW.weights Tryd.prog 46 (D i), q ≤ reachBytes := fun i hil q hq => hw q (by
      simp only [DataW.weights, Tryd.underlying22]
      exact List.mem_cons_of_mem _ (List.mem_append.2 (.inl (weightsAll_mem (List.mem_map_of_mem (List.mem_range.2 hil)) hq))))
    have hsp : 0 < len → a.spot = none := fun h0 => spot_of (by decide) hi (show 0 < m' by omega)
    have hex : ∀ i, i < len → ∃ f : F, ((∃ b off, a = ⟨b, off, none⟩ ∧ FCell W b (off + i * 3) f) ∧ FitF f) ∧ f.size ≤ Rows.uptoBulk (D i) := fun i hil => by
      obtain ⟨cs', hc, ht⟩ := hi i (by omega)
      obtain ⟨ys, n', hd, hyl, hg⟩ := open_row Tryd.underlying46 (by kernel_rfl) rfl hc ht
      have hD : D i = .agg (ys.map (·.1)) := hd
      have hwi := hel i hil
      rw [hD] at hwi
      have one : ∀ j f, (#[({ name := "Name", type := 9, offset := 0, embedded := false, tag := "", pkgPath := "", byteOffset := 0 } : Field), { name := "Kept", type := 9, offset := 1, embedded := false, tag := "", pkgPath := "", byteOffset := 16 }, { name := "Loose", type := 9, offset := 2, embedded := false, tag := "", pkgPath := "", byteOffset := 32 }] : Array Field)[j]? = some f → f.type = 9 → j < 3 → ∃ s : ByteArray, (W.cell? ((a.add (i * 3)).add j) = some (.string s) ∧ s.size ≤ reachBytes) ∧ (ys.map (·.1))[j]? = some (.lit (.string s.data.toList)) := fun j f hj hft hj3 => by
        obtain ⟨u, y, hcell, hy, htr⟩ := hg j f hj hj3
        rw [hft] at htr
        obtain ⟨s, hs, hyy, _⟩ := DataW.trod_string Tryd.underlying9 htr
        injection hs with hs
        subst hs
        have hys : (ys.map (·.1))[j]? = some (.lit (.string s.data.toList)) := by rw [List.getElem?_map, hy, hyy]; rfl
        refine ⟨s, ⟨hcell, ?_⟩, hys⟩
        have := hwi s.data.toList.length (by
          simp only [DataW.weights, Tryd.underlying46]
          refine DataW.weights_mem_each (j := j) (t := 9) (d := .lit (.string s.data.toList)) ?_ hys _ ?_
          · rw [List.getElem?_map, Array.getElem?_toList, hj, Option.map_some, hft]
          · simp [DataW.weights])
        rw [Array.length_toList] at this
        exact this
      obtain ⟨s0, ⟨c0, z0⟩, y0⟩ := one 0 _ rfl rfl (by decide)
      obtain ⟨s1, ⟨c1, z1⟩, y1⟩ := one 1 _ rfl rfl (by decide)
      obtain ⟨s2, ⟨c2, z2⟩, y2⟩ := one 2 _ rfl rfl (by decide)
      obtain ⟨b, off, spot⟩ := a
      have hspot : spot = none := hsp (by omega)
      subst hspot
      rw [add_plain, add_plain] at c0 c1 c2
      rw [reach_is] at z0 z1 z2
      refine ⟨⟨s0, s1, s2⟩, ⟨⟨b, off, rfl, c0, c1, c2⟩, by show s0.size ≤ _; omega, by unfold F.size; show s1.size + s2.size ≤ _; omega⟩, ?_⟩
      rw [hD]
      obtain ⟨l, hl9⟩ : ∃ l, l = ys.map (·.1) := ⟨_, rfl⟩
      have hll : l.length = 3 := by rw [hl9, List.length_map]; exact hyl
      rw [← hl9] at y0 y1 y2 ⊢
      match l, hll with
      | [d0, d1, d2], _ =>
        have e1 : d1 = .lit (.string s1.data.toList) := by simpa using y1
        have e2 : d2 = .lit (.string s2.data.toList) := by simpa using y2
        subst e1 e2
        unfold F.size
        show s1.size + s2.size ≤ _
        simp only [Rows.uptoBulk, Rows.uptoBulkAll, ← size_list]
        omega
    obtain ⟨L, hL, hall⟩ := list_of len hex
    refine ⟨_, L, rfl, ⟨some a, m', by rw [hL], by omega, ⟨hm, fun h => by cases h⟩, fun j hj => ?_⟩, by rw [hL]; omega, fun f hf => ?_, fun f hf => ?_⟩
    · obtain ⟨⟨⟨b, off, ha, hc⟩, _⟩, _⟩ := hall j hj
      exact ⟨b, off, by rw [ha], hc⟩
    · obtain ⟨j, hj, rfl⟩ := List.mem_iff_getElem.1 hf
      exact (hall j hj).1.2
    · obtain ⟨j, hj, rfl⟩ := List.mem_iff_getElem.1 hf
      have h1 := (hall j hj).2
      have h2 := bulk_mem (List.mem_map_of_mem (f := D) (List.mem_range.2 (show j < len by omega)))
      rw [hx]
      simp only [Rows.uptoBulk]
      omega
set_option maxRecDepth 100000 in
/-- An argument that is a disk, of that bulk. -/
theorem open_disk_b (hval : Value.okWide Tryd.prog W .any base 24 v) (h : DataW.Trod enc Tryd.prog W 0 (fun _ => true) true 24 v d p) (hw : ∀ q ∈ DataW.weights Tryd.prog 24 d, q ≤ reachBytes) :
    ∃ u L, v = .agg #[u] ∧ FV W u L ∧ (L.length + 1) * 48 ≤ 140737488355328 ∧ Fit L ∧ ∀ f ∈ L, f.size ≤ Rows.uptoBulk d := by
  obtain ⟨cs, rfl, hsz⟩ := okWide_struct Tryd.underlying24 hval
  rw [cellsDisk] at hsz
  obtain ⟨l⟩ := cs
  match l, hsz with
  | [c0], _ =>
    obtain ⟨fuel, hf⟩ := h
    obtain ⟨ys, n, _, hx, _, hyl, hg⟩ := DataW.trod_struct Tryd.underlying24 hf
    match ys, hyl with
    | [y0], _ =>
      have h0 := hg 0 { name := "Files", type := 22, offset := 0, embedded := false, tag := "", pkgPath := "", byteOffset := 0 } rfl
      have hc : Tryd.prog.cellsOf 22 = 1 := by kernel_rfl
      have h0' : DataW.trod enc Tryd.prog W 0 (fun _ => true) true n 22 [c0] = some y0 := by simpa [Value.cells, hc] using h0
      simp only [Prod.mk.injEq, List.map_cons, List.map_nil] at hx
      obtain ⟨u, L, hu, hv, hl, hfit, hb⟩ := open_files_b h0' (fun q hq => hw q (by
        rw [hx.1]
        simp only [DataW.weights, Tryd.underlying24]
        exact DataW.weights_mem_each (j := 0) (t := 22) (d := y0.1) rfl rfl q hq))
      injection hu with hu
      subst hu
      refine ⟨c0, L, rfl, hv, hl, hfit, fun f hf => ?_⟩
      have := hb f hf
      rw [hx.1]
      simp only [Rows.uptoBulk, Rows.uptoBulkAll]
      omega
theorem halves_laid {W : World} (h : laidMetH Tryd.prog [("levee/code.halves", Rows.laid_levee_code_halves)] W) : Halves W := by
  have ht : Lib.TabIs Tryd.prog W "levee/code.halves" .u32 (Crc.tab.map Int.ofNat) :=
    Lib.tabIs_of_head (rest := []) gHalves gHalvesType Tryd.underlying82 Tryd.underlying71 cellsU32 cellsHalves h
  intro k hk
  have h1 := ht.cell gHalves k (by simpa [Crc.tab] using hk)
  have h2 : ∀ j : Fin 16, (Crc.tab.map Int.ofNat).getD j.val 0 = (Crc.halfT j.val : Int) := by decide
  rw [h1, h2 ⟨k, hk⟩]
end
end Go.Proofs.YtmkcgnljankmdaaDoor
