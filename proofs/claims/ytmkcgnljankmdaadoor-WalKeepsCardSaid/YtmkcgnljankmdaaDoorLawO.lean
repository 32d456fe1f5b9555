/- The arguments of the disk's laws: files, operations, numbers: what they read as, and how long they are. -/
import Derived.Test.YtmkcgnljankmdaaDoorDiskN
import Derived.Test.YtmkcgnljankmdaaDoorOpn
import Derived.Test.YtmkcgnljankmdaaDoorDiskH
import Derived.Deep.Slices
import Derived.Deep.Fields
import Derived.ChangeSame
import Derived.SizedLaws
import Derived.OpenShut
namespace Go.Proofs.YtmkcgnljankmdaaDoor
open Go.ChangeShapes Go.WideShapes Go.RowKit Go.Deep

theorem cellsFile : Tryd.prog.cellsOf 46 = 3 := by kernel_rfl
theorem cellsOp : Tryd.prog.cellsOf 49 = 4 := by kernel_rfl
theorem cellsInt : Tryd.prog.cellsOf 3 = 1 := by kernel_rfl
theorem cellsDisk : Tryd.prog.cellsOf 24 = 1 := by kernel_rfl
theorem bytesFile : Tryd.prog.bytesOf 46 = 48 := by kernel_rfl
theorem bytesOp : Tryd.prog.bytesOf 49 = 48 := by kernel_rfl

section
variable {H : Type} {enc : TypeId × Value → H} {W : World} {base : Nat} {v : Value} {d : DataW H} {p : List MemPlace}
set_option maxRecDepth 100000 in
theorem open_files {m : Nat} {cs : List Value} {x : DataW H × List MemPlace} (hf : DataW.trod enc Tryd.prog W 0 (fun _ => true) true m 22 cs = some x) (hw : ∀ q ∈ DataW.weights Tryd.prog 22 x.1, q ≤ reachBytes) :
    ∃ u L, cs = [u] ∧ FV W u L ∧ (L.length + 1) * 48 ≤ 140737488355328 ∧ Fit L := by
  rcases open_slice Tryd.underlying22 hf with ⟨rfl, _⟩ | ⟨a, len, cap, m', n, D, Pl, rfl, _, hl, hm, hmm, hx, hi⟩
  · exact ⟨_, [], rfl, FV.nil W, by decide, fun f hf => by cases hf⟩
  · simp only [if_true] at hmm
    subst hmm
    rw [cellsFile] at hi
    rw [hx] at hw
    have hle := hw ((((List.range len).map D).length + ((List.range (m' - len)).map fun j => D (len + j)).length) * Tryd.prog.bytesOf 46) (by
      simp only [DataW.weights, Tryd.underlying22]; exact List.mem_cons_self ..)
    rw [bytesFile, List.length_map, List.length_range, reach_is] at hle
    have hel : ∀ i, i < len → ∀ q ∈ DataW.weights Tryd.prog 46 (D i), q ≤ reachBytes := fun i hil q hq => hw q (by
      simp only [DataW.weights, Tryd.underlying22]
      exact List.mem_cons_of_mem _ (List.mem_append.2 (.inl (weightsAll_mem (List.mem_map_of_mem (List.mem_range.2 hil)) hq))))
    have hsp : 0 < len → a.spot = none := fun h0 => spot_of (by decide) hi (show 0 < m' by omega)
    have hex : ∀ i, i < len → ∃ f : F, (∃ b off, a = ⟨b, off, none⟩ ∧ FCell W b (off + i * 3) f) ∧ FitF f := fun i hil => by
      obtain ⟨cs', hc, ht⟩ := hi i (by omega)
      obtain ⟨ys, n', hd, hyl, hg⟩ := open_row Tryd.underlying46 (by kernel_rfl) rfl hc ht
      have hD : D i = .agg (ys.map (·.1)) := hd
      have hwi := hel i hil
      rw [hD] at hwi
      have one : ∀ j f, (#[({ name := "Name", type := 9, offset := 0, embedded := false, tag := "", pkgPath := "", byteOffset := 0 } : Field), { name := "Kept", type := 9, offset := 1, embedded := false, tag := "", pkgPath := "", byteOffset := 16 }, { name := "Loose", type := 9, offset := 2, embedded := false, tag := "", pkgPath := "", byteOffset := 32 }] : Array Field)[j]? = some f → f.type = 9 → j < 3 → ∃ s : ByteArray, W.cell? ((a.add (i * 3)).add j) = some (.string s) ∧ s.size ≤ reachBytes := fun j f hj hft hj3 => by
        obtain ⟨u, y, hcell, hy, htr⟩ := hg j f hj hj3
        rw [hft] at htr
        obtain ⟨s, hs, hyy, _⟩ := DataW.trod_string Tryd.underlying9 htr
        injection hs with hs
        subst hs
        refine ⟨s, hcell, ?_⟩
        have := hwi s.data.toList.length (by
          simp only [DataW.weights, Tryd.underlying46]
          refine DataW.weights_mem_each (j := j) (t := 9) (d := .lit (.string s.data.toList)) ?_ ?_ _ ?_
          · rw [List.getElem?_map, Array.getElem?_toList, hj, Option.map_some, hft]
          · rw [List.getElem?_map, hy, hyy]; rfl
          · simp [DataW.weights])
        rw [Array.length_toList] at this
        exact this
      obtain ⟨s0, c0, z0⟩ := one 0 _ rfl rfl (by decide)
      obtain ⟨s1, c1, z1⟩ := one 1 _ rfl rfl (by decide)
      obtain ⟨s2, c2, z2⟩ := one 2 _ rfl rfl (by decide)
      obtain ⟨b, off, spot⟩ := a
      have hspot : spot = none := hsp (by omega)
      subst hspot
      rw [add_plain, add_plain] at c0 c1 c2
      rw [reach_is] at z0 z1 z2
      refine ⟨⟨s0, s1, s2⟩, ⟨b, off, rfl, c0, c1, c2⟩, by show s0.size ≤ _; omega, by unfold F.size; show s1.size + s2.size ≤ _; omega⟩
    obtain ⟨L, hL, hall⟩ := list_of len hex
    refine ⟨_, L, rfl, ⟨some a, m', by rw [hL], by omega, ⟨hm, fun h => by cases h⟩, fun j hj => ?_⟩, by rw [hL]; omega, fun f hf => ?_⟩
    · obtain ⟨⟨b, off, ha, hc⟩, _⟩ := hall j hj
      exact ⟨b, off, by rw [ha], hc⟩
    · obtain ⟨j, hj, rfl⟩ := List.mem_iff_getElem.1 hf
      exact (hall j hj).2
set_option maxRecDepth 100000 in
/-- An argument that is a disk. -/
theorem open_disk (hval : Value.okWide Tryd.prog W .any base 24 v) (h : DataW.Trod enc Tryd.prog W 0 (fun _ => true) true 24 v d p) (hw : ∀ q ∈ DataW.weights Tryd.prog 24 d, q ≤ reachBytes) :
    ∃ u L, v = .agg #[u] ∧ FV W u L ∧ (L.length + 1) * 48 ≤ 140737488355328 ∧ Fit L := by
  obtain ⟨cs, rfl, hsz⟩ := okWide_struct Tryd.underlying24 hval
  rw [cellsDisk] at hsz
  obtain ⟨l⟩ := cs
  match l, hsz with
  | [c0], _ =>
    obtain ⟨fuel, hf⟩ := h
    obtain ⟨ys, n, _, hx, _, hyl, hg⟩ := DataW.trod_struct Tryd.underlying24 hf
    match ys, hyl with
    | [y0], _ =>
      have h0 := hg 0 { name := "Files", type := 22, offset := 0, embedded := false, tag := "", pkgPath := "", byteOffset := 0 } rfl
      have hc : Tryd.prog.cellsOf 22 = 1 := by kernel_rfl
      have h0' : DataW.trod enc Tryd.prog W 0 (fun _ => true) true n 22 [c0] = some y0 := by simpa [Value.cells, hc] using h0
      simp only [Prod.mk.injEq, List.map_cons, List.map_nil] at hx
      obtain ⟨u, L, hu, hv, hl, hfit⟩ := open_files h0' (fun q hq => hw q (by
        rw [hx.1]
        simp only [DataW.weights, Tryd.underlying24]
        exact DataW.weights_mem_each (j := 0) (t := 22) (d := y0.1) rfl rfl q hq))
      injection hu with hu
      subst hu
      exact ⟨c0, L, rfl, hv, hl, hfit⟩
theorem bulk_pos {l : List (DataW H)} (h : ∀ d ∈ l, ∃ ps, d = .agg ps) : l.length ≤ Rows.uptoBulkAll l := by
  induction l with
  | nil => exact Nat.zero_le _
  | cons x r ih =>
    obtain ⟨ps, rfl⟩ := h x List.mem_cons_self
    have := ih (fun d hd => h d (List.mem_cons_of_mem _ hd))
    simp only [Rows.uptoBulkAll, Rows.uptoBulk, List.length_cons]
    omega
set_option maxRecDepth 100000 in
/-- An argument that is a slice of operations. -/
theorem open_ops (hval : Value.okWide Tryd.prog W .any base 28 v) (h : DataW.Trod enc Tryd.prog W 0 (fun _ => true) true 28 v d p) (hw : ∀ q ∈ DataW.weights Tryd.prog 28 d, q ≤ reachBytes) :
    ∃ ops, OV W v ops ∧ ops.length * 48 ≤ 140737488355328 ∧ (∀ o ∈ ops, FitO o) ∧ ops.length ≤ Rows.uptoBulk d := by
  obtain ⟨a0, len0, cap0, rfl⟩ := okWide_slice Tryd.underlying28 hval
  obtain ⟨fuel, hf⟩ := h
  rcases open_slice Tryd.underlying28 hf with ⟨hcs, _⟩ | ⟨a, len, m', m2, n, D, Pl, hcs, _, hl, hm, hmm, hx, hi⟩
  · simp only [Value.cells, List.cons.injEq, and_true] at hcs
    rw [show (Value.slice a0 len0 cap0) = .slice none 0 0 by simpa using hcs]
    exact ⟨[], ⟨none, 0, rfl, Nat.le_refl _, ⟨Nat.zero_le _, fun _ => rfl⟩, fun j hj => absurd hj (by simp)⟩, by decide, (fun o ho => by cases ho), Nat.zero_le _⟩
  · have hcs' : (Value.slice a0 len0 cap0) = .slice (some a) len m' := by simpa [Value.cells] using hcs
    rw [hcs']
    simp only [if_true] at hmm
    subst hmm
    rw [cellsOp] at hi hx
    simp only [Prod.mk.injEq] at hx
    have hd := hx.1
    rw [hd] at hw ⊢
    have hle := hw ((((List.range len).map D).length + ((List.range (m2 - len)).map fun j => D (len + j)).length) * Tryd.prog.bytesOf 49) (by
      simp only [DataW.weights, Tryd.underlying28]; exact List.mem_cons_self ..)
    rw [bytesOp, List.length_map, List.length_range, reach_is] at hle
    have hel : ∀ i, i < len → ∀ q ∈ DataW.weights Tryd.prog 49 (D i), q ≤ reachBytes := fun i hil q hq => hw q (by
      simp only [DataW.weights, Tryd.underlying28]
      exact List.mem_cons_of_mem _ (List.mem_append.2 (.inl (weightsAll_mem (List.mem_map_of_mem (List.mem_range.2 hil)) hq))))
    have hsp : 0 < len → a.spot = none := fun h0 => spot_of (by decide) hi (show 0 < m2 by omega)
    have hex : ∀ i, i < len → ∃ o : O, ((∃ b off, a = ⟨b, off, none⟩ ∧ OCell W b (off + i * 4) o) ∧ FitO o) ∧ ∃ ps, D i = .agg ps := fun i hil => by
      obtain ⟨cs', hc, ht⟩ := hi i (by omega)
      obtain ⟨ys, n', hdd, hyl, hg⟩ := open_row Tryd.underlying49 (by kernel_rfl) rfl hc ht
      have hD : D i = .agg (ys.map (·.1)) := hdd
      have hwi := hel i hil
      rw [hD] at hwi
      have one : ∀ j, ∀ f : Field, (Array.mk [({ name := "Kind", type := 3, offset := 0, embedded := false, tag := "", pkgPath := "", byteOffset := 0 } : Field), { name := "Name", type := 9, offset := 1, embedded := false, tag := "", pkgPath := "", byteOffset := 8 }, { name := "Bytes", type := 9, offset := 2, embedded := false, tag := "", pkgPath := "", byteOffset := 24 }, { name := "At", type := 3, offset := 3, embedded := false, tag := "", pkgPath := "", byteOffset := 40 }])[j]? = some f → f.type = 9 → j < 4 → ∃ s : ByteArray, W.cell? ((a.add (i * 4)).add j) = some (.string s) ∧ s.size ≤ reachBytes := fun j f hj hft hj3 => by
        obtain ⟨u, y, hcell, hy, htr⟩ := hg j f hj hj3
        rw [hft] at htr
        obtain ⟨s, hs, hyy, _⟩ := DataW.trod_string Tryd.underlying9 htr
        injection hs with hs
        subst hs
        refine ⟨s, hcell, ?_⟩
        have := hwi s.data.toList.length (by
          simp only [DataW.weights, Tryd.underlying49]
          refine DataW.weights_mem_each (j := j) (t := 9) (d := .lit (.string s.data.toList)) ?_ ?_ _ ?_
          · rw [List.getElem?_map, Array.getElem?_toList, hj, Option.map_some, hft]
          · rw [List.getElem?_map, hy, hyy]; rfl
          · simp [DataW.weights])
        rw [Array.length_toList] at this
        exact this
      have num : ∀ j, ∀ f : Field, (Array.mk [({ name := "Kind", type := 3, offset := 0, embedded := false, tag := "", pkgPath := "", byteOffset := 0 } : Field), { name := "Name", type := 9, offset := 1, embedded := false, tag := "", pkgPath := "", byteOffset := 8 }, { name := "Bytes", type := 9, offset := 2, embedded := false, tag := "", pkgPath := "", byteOffset := 24 }, { name := "At", type := 3, offset := 3, embedded := false, tag := "", pkgPath := "", byteOffset := 40 }])[j]? = some f → f.type = 3 → j < 4 → ∃ z : Int, W.cell? ((a.add (i * 4)).add j) = some (.int .i64 z) ∧ -9223372036854775808 ≤ z ∧ z ≤ 9223372036854775807 := fun j f hj hft hj3 => by
        obtain ⟨u, y, hcell, hy, htr⟩ := hg j f hj hj3
        rw [hft] at htr
        obtain ⟨z, hs, _, hwf⟩ := DataW.trod_int Tryd.underlying3 htr
        injection hs with hs
        subst hs
        have b := bounds_i64 hwf
        exact ⟨z, hcell, by omega, by omega⟩
      obtain ⟨z0, c0, lo0, hi0⟩ := num 0 _ rfl rfl (by decide)
      obtain ⟨s1, c1, y1⟩ := one 1 _ rfl rfl (by decide)
      obtain ⟨s2, c2, y2⟩ := one 2 _ rfl rfl (by decide)
      obtain ⟨z3, c3, lo3, hi3⟩ := num 3 _ rfl rfl (by decide)
      obtain ⟨b, off, spot⟩ := a
      have hspot : spot = none := hsp (by omega)
      subst hspot
      rw [add_plain, add_plain] at c0 c1 c2 c3
      rw [reach_is] at y1 y2
      exact ⟨⟨z0, s1, s2, z3⟩, ⟨⟨b, off, rfl, c0, c1, c2, c3⟩, ⟨lo0, hi0⟩, ⟨lo3, hi3⟩, (show s1.size ≤ _ by omega), (show s2.size ≤ _ by omega)⟩, _, hD⟩
    obtain ⟨L, hL, hall⟩ := list_of len hex
    refine ⟨L, ⟨some a, m2, by rw [hL], by omega, ⟨hm, fun h => by cases h⟩, fun j hj => ?_⟩, by rw [hL]; omega, fun o ho => ?_, ?_⟩
    · obtain ⟨⟨⟨b, off, ha, hc⟩, _⟩, _⟩ := hall j hj
      exact ⟨b, off, by rw [ha], hc⟩
    · obtain ⟨j, hj, rfl⟩ := List.mem_iff_getElem.1 ho
      exact (hall j hj).1.2
    · have hb := bulk_pos (l := (List.range len).map D) (fun dd hdd => by
        obtain ⟨i, hir, rfl⟩ := List.mem_map.1 hdd
        obtain ⟨o, _, ps, hps⟩ := hex i (List.mem_range.1 hir)
        exact ⟨ps, hps⟩)
      rw [List.length_map, List.length_range] at hb
      simp only [Rows.uptoBulk]
      omega
set_option maxRecDepth 100000 in
/-- An argument that is a slice of numbers. -/
theorem open_nums (hval : Value.okWide Tryd.prog W .any base 37 v) (h : DataW.Trod enc Tryd.prog W 0 (fun _ => true) true 37 v d p) : ∃ K, IV W v K := by
  obtain ⟨a0, len0, cap0, rfl⟩ := okWide_slice Tryd.underlying37 hval
  obtain ⟨fuel, hf⟩ := h
  rcases open_slice Tryd.underlying37 hf with ⟨hcs, _⟩ | ⟨a, len, m', m2, n, D, Pl, hcs, _, hl, hm, hmm, hx, hi⟩
  · rw [show (Value.slice a0 len0 cap0) = .slice none 0 0 by simpa [Value.cells] using hcs]
    exact ⟨[], none, 0, rfl, Nat.le_refl _, Nat.zero_le _, fun j hj => absurd hj (by simp)⟩
  · rw [show (Value.slice a0 len0 cap0) = .slice (some a) len m' by simpa [Value.cells] using hcs]
    simp only [if_true] at hmm
    subst hmm
    rw [cellsInt] at hi
    have hsp : 0 < len → a.spot = none := fun h0 => spot_of (by decide) hi (show 0 < m2 by omega)
    have hex : ∀ i, i < len → ∃ z : Int, ∃ b off, a = ⟨b, off, none⟩ ∧ W.cell? ⟨b, off + i, none⟩ = some (.int .i64 z) ∧ -9223372036854775808 ≤ z ∧ z ≤ 9223372036854775807 := fun i hil => by
      obtain ⟨cs', hc, ht⟩ := hi i (by omega)
      obtain ⟨_, hcl, hat⟩ := World.cells?_some hc
      obtain ⟨z, hs, _, hwf⟩ := DataW.trod_int Tryd.underlying3 ht
      have b := bounds_i64 hwf
      have c0 := hat 0 (by decide)
      rw [hs] at c0
      obtain ⟨b', off, spot⟩ := a
      have hspot : spot = none := hsp (by omega)
      subst hspot
      rw [add_plain, add_plain, Nat.mul_one] at c0
      exact ⟨z, b', off, rfl, c0, by omega, by omega⟩
    obtain ⟨L, hL, hall⟩ := list_of len hex
    refine ⟨L, some a, m2, by rw [hL], by omega, hm, fun j hj => ?_⟩
    obtain ⟨b, off, ha, hc⟩ := hall j hj
    exact ⟨b, off, by rw [ha], hc⟩
end
end Go.Proofs.YtmkcgnljankmdaaDoor
