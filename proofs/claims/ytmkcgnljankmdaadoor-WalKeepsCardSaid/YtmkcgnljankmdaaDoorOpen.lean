/- A slice of strings among the arguments: what it reads as, and that it is no longer than its datum's bulk. -/
import Derived.Test.YtmkcgnljankmdaaDoorSV
namespace Go.Proofs.YtmkcgnljankmdaaDoor
open Go.ChangeShapes Go.WideShapes Go.RowKit

/-- All letters, and one for each string. -/
def sizes : List ByteArray → Nat
  | [] => 0
  | s :: r => s.size + 1 + sizes r
theorem sizes_append (a b : List ByteArray) : sizes (a ++ b) = sizes a + sizes b := by
  induction a with
  | nil => simp [sizes]
  | cons x a ih => simp only [List.cons_append, sizes, ih]; omega
theorem sizes_len (L : List ByteArray) : L.length ≤ sizes L := by
  induction L with
  | nil => exact Nat.zero_le _
  | cons x a ih => simp only [List.length_cons, sizes]; omega
theorem sizes_mem {L : List ByteArray} {s : ByteArray} (h : s ∈ L) : s.size + 1 ≤ sizes L := by
  induction L with
  | nil => cases h
  | cons x a ih =>
    simp only [sizes]
    rcases List.mem_cons.1 h with rfl | h
    · omega
    · have := ih h; omega
theorem sizes_take (L : List ByteArray) (k : Nat) : sizes (L.take k) ≤ sizes L := by
  have := sizes_append (L.take k) (L.drop k)
  rw [List.take_append_drop] at this
  omega
theorem bulk_strs {H : Type} (L : List ByteArray) : Rows.uptoBulkAll (strs (H := H) L) = sizes L := by
  induction L with
  | nil => rfl
  | cons x a ih =>
    show Rows.uptoBulk _ + Rows.uptoBulkAll (strs a) = _
    rw [ih]
    simp only [Rows.uptoBulk, sizes, Array.length_toList]
    rfl
theorem cellsString : Tryd.prog.cellsOf 9 = 1 := by kernel_rfl

set_option maxRecDepth 100000 in
theorem open_sv {H : Type} {enc : TypeId × Value → H} {W : World} {base : Nat} {v : Value} {d : DataW H} {p : List MemPlace}
    (hval : Value.okWide Tryd.prog W .any base 27 v) (h : DataW.Trod enc Tryd.prog W 0 (fun _ => true) true 27 v d p) :
    ∃ L, SV W v L ∧ (∀ s ∈ L, s.size ≤ maxLen) ∧ sizes L ≤ Rows.uptoBulk d := by
  obtain ⟨a0, len, cap, rfl⟩ := okWide_slice Tryd.underlying27 hval
  obtain ⟨fuel, hf⟩ := h
  rcases open_strings Tryd.underlying27 Tryd.underlying9 cellsString hf with ⟨hcs, _⟩ | ⟨a, len', cap', ss, hcs, _, hl, hm, hz, hx, hcell, hws⟩
  · simp [Value.cells] at hcs
    obtain ⟨rfl, rfl, rfl⟩ := hcs
    exact ⟨[], SV.nil W, by simp, Nat.zero_le _⟩
  · simp [Value.cells] at hcs
    obtain ⟨rfl, rfl, rfl⟩ := hcs
    simp only [Prod.mk.injEq] at hx
    obtain ⟨rfl, rfl⟩ := hx
    simp only [if_true] at hz
    have hlen : (ss.take len).length = len := by rw [List.length_take]; omega
    refine ⟨ss.take len, ⟨some a, cap, by rw [hlen], by omega, ⟨hm, fun h => by cases h⟩, fun j hj => ?_⟩, fun s hs => hws s (List.mem_of_mem_take hs), ?_⟩
    · have hjs : j < ss.length := by omega
      have hc := hcell j hjs
      obtain ⟨b, off, spot⟩ := a
      have hspot : spot = none := by simpa [Addr.add] using World.cell?_spot (hcell 0 (by omega))
      subst hspot
      rw [add_plain] at hc
      refine ⟨b, off, rfl, ?_⟩
      rw [hc]
      simp [hjs]
    · simp only [Rows.uptoBulk, bulk_strs]
      omega
theorem bytesString : Tryd.prog.bytesOf 9 = 16 := by kernel_rfl
theorem weights_strs {H : Type} (L : List ByteArray) : ∀ s ∈ L, s.size ∈ DataW.weightsAll Tryd.prog 9 (strs (H := H) L) := by
  induction L with
  | nil => intro s h; cases h
  | cons x a ih =>
    intro s h
    show s.size ∈ DataW.weights Tryd.prog 9 (.lit (.string x.data.toList)) ++ DataW.weightsAll Tryd.prog 9 (strs (H := H) a)
    rcases List.mem_cons.1 h with rfl | h
    · refine List.mem_append.2 (Or.inl ?_)
      simp only [DataW.weights, List.mem_singleton, Array.length_toList]
      rfl
    · exact List.mem_append.2 (Or.inr (ih s h))
set_option maxRecDepth 100000 in
/-- The form's own reach of a slice of strings: its places, and each string. -/
theorem open_svs {H : Type} {enc : TypeId × Value → H} {W : World} {base : Nat} {v : Value} {d : DataW H} {p : List MemPlace}
    (hval : Value.okWide Tryd.prog W .any base 27 v) (h : DataW.Trod enc Tryd.prog W 0 (fun _ => true) true 27 v d p)
    (hw : ∀ m ∈ DataW.weights Tryd.prog 27 d, m ≤ reachBytes) :
    ∃ L, SV W v L ∧ (L.length + 2) * 16 ≤ 140737488355328 ∧ ∀ s ∈ L, s.size ≤ 281474976710656 := by
  obtain ⟨a0, len, cap, rfl⟩ := okWide_slice Tryd.underlying27 hval
  obtain ⟨fuel, hf⟩ := h
  rcases open_strings Tryd.underlying27 Tryd.underlying9 cellsString hf with ⟨hcs, _⟩ | ⟨a, len', cap', ss, hcs, _, hl, hm, hz, hx, hcell, hws⟩
  · simp [Value.cells] at hcs
    obtain ⟨rfl, rfl, rfl⟩ := hcs
    exact ⟨[], SV.nil W, by simp, by simp⟩
  · simp [Value.cells] at hcs
    obtain ⟨rfl, rfl, rfl⟩ := hcs
    simp only [Prod.mk.injEq] at hx
    obtain ⟨rfl, rfl⟩ := hx
    simp only [if_true] at hz
    have hlen : (ss.take len).length = len := by rw [List.length_take]; omega
    have h1 := hw (((strs (H := H) (ss.take len)).length + (strs (H := H) (ss.drop len)).length) * Tryd.prog.bytesOf 9) (by
      simp only [DataW.weights, Tryd.underlying27]; exact List.mem_cons_self ..)
    rw [bytesString] at h1
    have hsl : (strs (H := H) (ss.take len)).length = len := by unfold strs; rw [List.length_map, hlen]
    rw [hsl] at h1
    have hr : reachBytes = 140737488351232 := rfl
    refine ⟨ss.take len, ⟨some a, cap, by rw [hlen], by omega, ⟨hm, fun h => by cases h⟩, fun j hj => ?_⟩, ?_, fun s hs => ?_⟩
    · have hjs : j < ss.length := by omega
      have hc := hcell j hjs
      obtain ⟨b, off, spot⟩ := a
      have hspot : spot = none := by simpa [Addr.add] using World.cell?_spot (hcell 0 (by omega))
      subst hspot
      rw [add_plain] at hc
      refine ⟨b, off, rfl, ?_⟩
      rw [hc]
      simp [hjs]
    · rw [hlen]; omega
    · have h2 := hw s.size (by
        simp only [DataW.weights, Tryd.underlying27]
        exact List.mem_cons_of_mem _ (List.mem_append.2 (Or.inl (weights_strs _ s hs))))
      omega
end Go.Proofs.YtmkcgnljankmdaaDoor
