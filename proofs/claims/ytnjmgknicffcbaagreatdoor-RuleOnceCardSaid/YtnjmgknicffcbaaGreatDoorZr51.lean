/- The arguments of the laws of catalogues: rules, operations. -/
import Derived.Test.YtnjmgknicffcbaaGreatDoorZr31
import Derived.Test.YtnjmgknicffcbaaGreatDoorZr06
namespace Go.Proofs.YtnjmgknicffcbaaGreatDoor
open Go.ChangeShapes Go.WideShapes Go.RowKit Go.Deep

theorem cellsRule : Tryz.prog.cellsOf 49 = 5 := by kernel_rfl
theorem cellsRInt : Tryz.prog.cellsOf 3 = 1 := by kernel_rfl
theorem cellsRI64 : Tryz.prog.cellsOf 2 = 1 := by kernel_rfl
theorem cellsRStr : Tryz.prog.cellsOf 9 = 1 := by kernel_rfl
theorem bytesRule : Tryz.prog.bytesOf 49 = 56 := by kernel_rfl
/-- What a rule's parts may be. -/
def FitRU (r : RU) : Prop := (-9223372036854775808 ≤ r.k ∧ r.k ≤ 9223372036854775807) ∧ (-9223372036854775808 ≤ r.min ∧ r.min ≤ 9223372036854775807) ∧ (-9223372036854775808 ≤ r.start ∧ r.start ≤ 9223372036854775807) ∧ r.key.size ≤ 281474976710656 ∧ r.other.size ≤ 281474976710656
theorem uv_nil (w : World) : UV w (.slice none 0 0) [] := ⟨none, 0, rfl, Nat.le_refl _, ⟨Nat.zero_le _, fun _ => rfl⟩, fun j hj => absurd hj (by simp)⟩

section
variable {H : Type} {enc : TypeId × Value → H} {W : World} {base : Nat} {v : Value} {d : DataW H} {p : List MemPlace}
set_option maxRecDepth 100000 in
theorem trod_rule {B : Nat} {sp : Nat → Bool} {hd : Bool} {m : Nat} {cs : List Value} {x : DataW H × List MemPlace} (hl : cs.length = 5) (hf : DataW.trod enc Tryz.prog W B sp hd m 49 cs = some x) (hw : ∀ q ∈ DataW.weights Tryz.prog 49 x.1, q ≤ reachBytes) :
    ∃ r : RU, cs = ucell r ∧ FitRU r := by
  obtain ⟨ys, n, _, hx, _, hyl, hg⟩ := DataW.trod_struct Tryz.underlying49 hf
  match cs, hl with
  | [c0, c1, c2, c3, c4], _ =>
    match ys, hyl with
    | [y0, y1, y2, y3, y4], _ =>
      have h0 := hg 0 ({ name := "Kind", type := 3, offset := 0, embedded := false, tag := "", pkgPath := "", byteOffset := 0 } : Field) rfl
      have h1 := hg 1 ({ name := "Key", type := 9, offset := 1, embedded := false, tag := "", pkgPath := "", byteOffset := 8 } : Field) rfl
      have h2 := hg 2 ({ name := "Other", type := 9, offset := 2, embedded := false, tag := "", pkgPath := "", byteOffset := 24 } : Field) rfl
      have h3 := hg 3 ({ name := "Min", type := 2, offset := 3, embedded := false, tag := "", pkgPath := "", byteOffset := 40 } : Field) rfl
      have h4 := hg 4 ({ name := "Start", type := 2, offset := 4, embedded := false, tag := "", pkgPath := "", byteOffset := 48 } : Field) rfl
      have h0' : DataW.trod enc Tryz.prog W B sp hd n 3 [c0] = some y0 := by simpa [cellsRInt] using h0
      have h1' : DataW.trod enc Tryz.prog W B sp hd n 9 [c1] = some y1 := by simpa [cellsRStr] using h1
      have h2' : DataW.trod enc Tryz.prog W B sp hd n 9 [c2] = some y2 := by simpa [cellsRStr] using h2
      have h3' : DataW.trod enc Tryz.prog W B sp hd n 2 [c3] = some y3 := by simpa [cellsRI64] using h3
      have h4' : DataW.trod enc Tryz.prog W B sp hd n 2 [c4] = some y4 := by simpa [cellsRI64] using h4
      simp only [List.map_cons, List.map_nil] at hx
      obtain ⟨z0, hz0, _, w0⟩ := DataW.trod_int Tryz.underlying3 h0'
      obtain ⟨s1, hz1, hy1, _⟩ := DataW.trod_string Tryz.underlying9 h1'
      obtain ⟨s2, hz2, hy2, _⟩ := DataW.trod_string Tryz.underlying9 h2'
      obtain ⟨z3, hz3, _, w3⟩ := DataW.trod_int Tryz.underlying2 h3'
      obtain ⟨z4, hz4, _, w4⟩ := DataW.trod_int Tryz.underlying2 h4'
      injection hz0 with hz0
      injection hz1 with hz1
      injection hz2 with hz2
      injection hz3 with hz3
      injection hz4 with hz4
      subst hz0 hz1 hz2 hz3 hz4
      have b0 := bounds_i64 w0
      have b3 := bounds_i64 w3
      have b4 := bounds_i64 w4
      have hq1 := hw s1.data.toList.length (by
        rw [hx]
        simp only [DataW.weights, Tryz.underlying49]
        refine DataW.weights_mem_each (j := 1) (t := 9) (d := .lit (.string s1.data.toList)) rfl ?_ _ ?_
        · rw [hy1]; rfl
        · simp [DataW.weights])
      have hq2 := hw s2.data.toList.length (by
        rw [hx]
        simp only [DataW.weights, Tryz.underlying49]
        refine DataW.weights_mem_each (j := 2) (t := 9) (d := .lit (.string s2.data.toList)) rfl ?_ _ ?_
        · rw [hy2]; rfl
        · simp [DataW.weights])
      rw [Array.length_toList, reach_is] at hq1 hq2
      exact ⟨⟨z0, s1, s2, z3, z4⟩, rfl, ⟨by simp only []; omega, by simp only []; omega⟩, ⟨by simp only []; omega, by simp only []; omega⟩, ⟨by simp only []; omega, by simp only []; omega⟩, by change s1.size ≤ _ at hq1; simp only []; omega, by change s2.size ≤ _ at hq2; simp only []; omega⟩
theorem trod_rules {m : Nat} {c : Value} {x : DataW H × List MemPlace} (hf : DataW.trod enc Tryz.prog W 0 (fun _ => true) true m 22 [c] = some x) (hw : ∀ q ∈ DataW.weights Tryz.prog 22 x.1, q ≤ reachBytes) :
    ∃ L : List RU, UV W c L ∧ (∀ o ∈ L, FitRU o) ∧ (L.length + 1) * 56 ≤ 140737488355328 := by
  rcases open_slice Tryz.underlying22 hf with ⟨hcs, _⟩ | ⟨a, len, cap, m2, n, D, Pl, hcs, _, hl, hm, hmm, hx, hi⟩
  · injection hcs with hcs
    rw [hcs]
    exact ⟨[], uv_nil W, (fun o ho => by cases ho), by decide⟩
  · injection hcs with hcs
    rw [hcs]
    simp only [if_true] at hmm
    subst hmm
    rw [cellsRule] at hi
    rw [hx] at hw
    have hle := hw ((((List.range len).map D).length + ((List.range (m2 - len)).map fun j => D (len + j)).length) * Tryz.prog.bytesOf 49) (by
      simp only [DataW.weights, Tryz.underlying22]; exact List.mem_cons_self ..)
    rw [bytesRule, List.length_map, List.length_range, reach_is] at hle
    have hel : ∀ i, i < len → ∀ q ∈ DataW.weights Tryz.prog 49 (D i), q ≤ reachBytes := fun i hil q hq => hw q (by
      simp only [DataW.weights, Tryz.underlying22]
      exact List.mem_cons_of_mem _ (List.mem_append.2 (.inl (weightsAll_mem (List.mem_map_of_mem (List.mem_range.2 hil)) hq))))
    have hsp : 0 < len → a.spot = none := fun h0 => spot_of (by decide) hi (show 0 < m2 by omega)
    have hex : ∀ i, i < len → ∃ o : RU, (∃ b off, a = ⟨b, off, none⟩ ∧ RCell W b (off + i * 5) o) ∧ FitRU o := fun i hil => by
      obtain ⟨cs', hc, ht⟩ := hi i (by omega)
      obtain ⟨_, hl4, _⟩ := World.cells?_some hc
      obtain ⟨o, rfl, ho⟩ := trod_rule hl4 ht (hel i hil)
      have c0 := cells_at hc 0 (by decide)
      have c1 := cells_at hc 1 (by decide)
      have c2 := cells_at hc 2 (by decide)
      have c3 := cells_at hc 3 (by decide)
      have c4 := cells_at hc 4 (by decide)
      obtain ⟨b, off, spot⟩ := a
      have hspot : spot = none := hsp (by omega)
      subst hspot
      rw [add_plain, add_plain] at c0 c1 c2 c3 c4
      exact ⟨o, ⟨b, off, rfl, c0, c1, c2, c3, c4⟩, ho⟩
    obtain ⟨L, hL, hall⟩ := list_of len hex
    refine ⟨L, ⟨some a, m2, by rw [hL], by omega, ⟨hm, fun h => by cases h⟩, fun j hj => ?_⟩, fun o ho => ?_, by rw [hL]; omega⟩
    · obtain ⟨⟨b, off, ha, hc⟩, _⟩ := hall j hj
      exact ⟨b, off, by rw [ha], hc⟩
    · obtain ⟨j, hj, rfl⟩ := List.mem_iff_getElem.1 ho
      exact (hall j hj).2
set_option maxRecDepth 100000 in
theorem open_rules (hval : Value.okWide Tryz.prog W .any base 22 v) (h : DataW.Trod enc Tryz.prog W 0 (fun _ => true) true 22 v d p) (hw : ∀ q ∈ DataW.weights Tryz.prog 22 d, q ≤ reachBytes) :
    ∃ L : List RU, UV W v L ∧ (∀ r ∈ L, FitRU r) ∧ (L.length + 1) * 56 ≤ 140737488355328 := by
  obtain ⟨a0, len0, cap0, rfl⟩ := okWide_slice Tryz.underlying22 hval
  obtain ⟨fuel, hf⟩ := h
  exact trod_rules (x := (d, p)) (by simpa [Value.cells] using hf) hw
end
end Go.Proofs.YtnjmgknicffcbaaGreatDoor
