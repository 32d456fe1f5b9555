/- Walks: the marks still stand. -/
import Derived.Test.YthmnffiiondggaaDoorRoomy
namespace Go.Proofs.YthmnffiiondggaaDoor
open Go.RowKit

theorem sv_front {w : World} {base g cap : Nat} {L : List ByteArray} (h : w.ownsRow base 9 1 (.slice (some ⟨g, 0, none⟩) (L.length + 2) cap) (L.length + 2) (L.map Value.string ++ marks)) :
    SV w (.slice (some ⟨g, 0, none⟩) L.length cap) L := by
  rcases h.2 with ⟨hh, _⟩ | ⟨g', cap', cur, hh, _, _, hnc, hcm, _, _⟩
  · cases hh
  · injection hh with h1 h2 h3
    subst h3
    refine ⟨_, cap, rfl, by omega, ⟨hcm, fun h => by cases h⟩, fun j hj => ⟨g, 0, rfl, ?_⟩⟩
    rw [Nat.zero_add, h.cellAt j (by omega), List.getElem?_append_left (by rw [List.length_map]; exact hj)]
    simp [hj]
set_option maxRecDepth 100000 in
theorem kept_any (vl : Value) (L : List ByteArray) (g cap base : Nat) (w : World) (hv : SV w vl L)
    (h : w.ownsRow base 9 1 (.slice (some ⟨g, 0, none⟩) (L.length + 2) cap) (L.length + 2) (L.map Value.string ++ marks)) :
    Calls Tryd.prog 20 #[.slice (some ⟨g, 0, none⟩) L.length cap, vl] w fun e w' => e = .returned (.bool true) ∧ Gr w w' := by
  have hsv := sv_front h
  have hs := same_any _ vl L L w hsv hv
  rw [decide_eq_true rfl] at hs
  have hc1 : w.cell? ⟨g, L.length, none⟩ = some (.string ⟨#[109, 97, 114, 107]⟩) := by
    rw [h.cellAt L.length (by omega), List.getElem?_append_right (by rw [List.length_map]; exact Nat.le_refl _)]
    simp [marks, markS]
  have hc2 : w.cell? ⟨g, L.length + 1, none⟩ = some (.string ⟨#[109, 97, 114, 107]⟩) := by
    rw [h.cellAt (L.length + 1) (by omega), List.getElem?_append_right (by rw [List.length_map]; omega)]
    simp [marks, markS]
  have hb : L.length + 2 ≤ cap ∧ cap ≤ 9223372036854775807 := by
    rcases h.2 with ⟨hh, _⟩ | ⟨g', cap', cur, hh, _, _, hnc, hcm, _, _⟩
    · cases hh
    · injection hh with h1 h2 h3
      subst h3
      exact ⟨hnc, hcm⟩
  obtain ⟨A, c, rfl, l1, l2, l3⟩ := hv
  obtain ⟨n, hn⟩ : ∃ n, n = L.length := ⟨_, rfl⟩
  rw [← hn] at hs hc1 hc2 hb ⊢
  have hb1 := hb.1
  have hb2 := hb.2
  have HS := Lib.hid hs
  clear hs hn l1 l2 l3 hsv h hb
  go_enter Tryd.func20, Tryd.ntmps20
  go_wp2_with fail
  refine HS.out.mono ?_
  rintro e w1 ⟨rfl, m, rfl⟩
  go_wp2_with fail
  go_ret
  exact ⟨rfl, (Gr.refl _).drewN _⟩
end Go.Proofs.YthmnffiiondggaaDoor
