/- A slice of strings among the arguments: what it reads as, and that it is no longer than its datum's bulk. -/
import Derived.Test.YthmnffiiondggaaDoorSV
namespace Go.Proofs.YthmnffiiondggaaDoor
open Go.ChangeShapes Go.WideShapes Go.RowKit

/-- All letters, and one for each string. -/
def sizes : List ByteArray → Nat
  | [] => 0
  | s :: r => s.size + 1 + sizes r
theorem sizes_append (a b : List ByteArray) : sizes (a ++ b) = sizes a + sizes b := by
  induction a with
  | nil => simp [sizes]
  | cons x a ih => simp only [List.cons_append, sizes, ih]; omega
theorem sizes_len (L : List ByteArray) : L.length ≤ sizes L := by
  induction L with
  | nil => exact Nat.zero_le _
  | cons x a ih => simp only [List.length_cons, sizes]; omega
theorem sizes_mem {L : List ByteArray} {s : ByteArray} (h : s ∈ L) : s.size + 1 ≤ sizes L := by
  induction L with
  | nil => cases h
  | cons x a ih =>
    simp only [sizes]
    rcases List.mem_cons.1 h with rfl | h
    · omega
    · have := ih h; omega
theorem sizes_take (L : List ByteArray) (k : Nat) : sizes (L.take k) ≤ sizes L := by
  have := sizes_append (L.take k) (L.drop k)
  rw [List.take_append_drop] at this
  omega
theorem bulk_strs {H : Type} (L : List ByteArray) : Rows.uptoBulkAll (strs (H := H) L) = sizes L := by
  induction L with
  | nil => rfl
  | cons x a ih =>
    show Rows.uptoBulk _ + Rows.uptoBulkAll (strs a) = _
    rw [ih]
    simp only [Rows.uptoBulk, sizes, Array.length_toList]
    rfl
theorem cellsString : Tryd.prog.cellsOf 9 = 1 := by kernel_rfl

set_option maxRecDepth 100000 in
theorem open_sv {H : Type} {enc : TypeId × Value → H} {W : World} {base : Nat} {v : Value} {d : DataW H} {p : List MemPlace}
    (hval : Value.okWide Tryd.prog W .any base 29 v) (h : DataW.Trod enc Tryd.prog W 0 (fun _ => true) true 29 v d p) :
    ∃ L, SV W v L ∧ (∀ s ∈ L, s.size ≤ maxLen) ∧ sizes L ≤ Rows.uptoBulk d := by
  obtain ⟨a0, len, cap, rfl⟩ := okWide_slice Tryd.underlying29 hval
  obtain ⟨fuel, hf⟩ := h
  rcases open_strings Tryd.underlying29 Tryd.underlying9 cellsString hf with ⟨hcs, _⟩ | ⟨a, len', cap', ss, hcs, _, hl, hm, hz, hx, hcell, hws⟩
  · simp [Value.cells] at hcs
    obtain ⟨rfl, rfl, rfl⟩ := hcs
    exact ⟨[], SV.nil W, by simp, Nat.zero_le _⟩
  · simp [Value.cells] at hcs
    obtain ⟨rfl, rfl, rfl⟩ := hcs
    simp only [Prod.mk.injEq] at hx
    obtain ⟨rfl, rfl⟩ := hx
    simp only [if_true] at hz
    have hlen : (ss.take len).length = len := by rw [List.length_take]; omega
    refine ⟨ss.take len, ⟨some a, cap, by rw [hlen], by omega, hm, fun j hj => ?_⟩, fun s hs => hws s (List.mem_of_mem_take hs), ?_⟩
    · have hjs : j < ss.length := by omega
      have hc := hcell j hjs
      obtain ⟨b, off, spot⟩ := a
      have hspot : spot = none := by simpa [Addr.add] using World.cell?_spot (hcell 0 (by omega))
      subst hspot
      rw [add_plain] at hc
      refine ⟨b, off, rfl, ?_⟩
      rw [hc]
      simp [hjs]
    · simp only [Rows.uptoBulk, bulk_strs]
      omega
end Go.Proofs.YthmnffiiondggaaDoor
