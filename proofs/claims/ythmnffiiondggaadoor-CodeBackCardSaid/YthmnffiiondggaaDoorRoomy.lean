/- Walks: the laws' copies with marks behind them. -/
import Derived.Test.YthmnffiiondggaaDoorSame
import Derived.Laws.AppendOwnNone
namespace Go.Proofs.YthmnffiiondggaaDoor
open Go.RowKit

def markS : ByteArray := ⟨#[109, 97, 114, 107]⟩
def marks : List Value := [.string markS, .string markS]
def RetRoomy (L : List ByteArray) (w : World) (e : Ending) (w' : World) : Prop :=
  ∃ g cap, e = .returned (.slice (some ⟨g, 0, none⟩) L.length cap) ∧ w'.ownsRow w.heap.size 9 1 (.slice (some ⟨g, 0, none⟩) (L.length + 2) cap) (L.length + 2) (L.map Value.string ++ marks) ∧ Gr w w'
theorem own_empty (w : World) : (w.alloc (.cells #[] 9)).ownsRow w.heap.size 9 1 (.slice (some ⟨w.heap.size, 0, none⟩) 0 0) 0 [] :=
  World.ownsRow_made w #[] 0 (Nat.le_refl _) (Nat.zero_le _) rfl
theorem two_marks (w : World) : ∀ j u, marks[j]? = some u → (w.alloc (.cells #[.string markS, .string markS] 9)).cell? ((⟨w.heap.size, 0, none⟩ : Addr).add j) = some u := by
  intro j u hu
  rw [Go.WideShapes.add_plain, World.cell?_alloc_mark]
  match j, hu with
  | 0, hu => exact hu
  | 1, hu => exact hu

set_option maxRecDepth 100000 in
set_option maxHeartbeats 1000000 in
theorem roomy_any (v : Value) (L : List ByteArray) (w : World) (hv : SV w v L) (hlen : (L.length + 2) * 16 ≤ 140737488355328) :
    Calls Tryd.prog 17 #[v] w fun e w' => RetRoomy L w e w' := by
  obtain ⟨i0, hi, hz0, hz1, hz2⟩ := info_parts infoString
  have HI := Lib.hid (And.intro hi (And.intro hz0 (And.intro hz1 hz2)))
  clear hi hz0 hz1 hz2
  obtain ⟨A, c, rfl, l1, l2, l3⟩ := hv
  have HA := Lib.hid l3
  have HA2 := Lib.hid l2.2
  have hc63 : c ≤ 9223372036854775807 := l2.1
  clear l3 l2
  obtain ⟨n, hn⟩ : ∃ n, n = L.length := ⟨_, rfl⟩
  rw [← hn] at l1 hlen ⊢
  have HN := Lib.hid hn
  clear hn
  have HE := Lib.hid (own_empty w)
  have HT := Lib.hid two_marks
  obtain ⟨xs, hxs⟩ : ∃ xs, xs = L.map Value.string := ⟨_, rfl⟩
  have hxl : xs.length = n := by rw [hxs, List.length_map, HN.out]
  have HX := Lib.hid hxs
  have HXL := Lib.hid hxl
  clear hxs hxl
  have fin : ∀ (v2 : Value) (w2 : World), w2.ownsRow w.heap.size 9 1 v2 (n + 2) (xs ++ marks) → ∃ g cap, v2 = .slice (some ⟨g, 0, none⟩) (n + 2) cap ∧ n + 2 ≤ cap ∧ cap ≤ 9223372036854775807 := by
    intro v2 w2 h
    rcases h.2 with ⟨_, h0⟩ | ⟨g, cap, cur, rfl, _, _, hnc, hcm, _, _⟩
    · omega
    · exact ⟨g, cap, rfl, hnc, hcm⟩
  have FIN := Lib.hid fin
  clear fin
  cases A with
  | none =>
    have hn0 : n = 0 := by
      rcases Nat.eq_zero_or_pos n with h | h
      · exact h
      · obtain ⟨b, off, hh, _⟩ := HA.out 0 (by rw [← HN.out]; exact h)
        cases hh
    have hc0 := HA2.out rfl
    have hx0 : xs = [] := List.length_eq_zero_iff.1 (by rw [HXL.out]; exact hn0)
    subst hn0 hc0 hx0
    go_enter Tryd.func17, Tryd.ntmps17
    have hO1 := HE.out
    have G1 : Gr w (w.alloc (.cells #[] 9)) := (Gr.refl _).alloc _
    go_wp2_with (first | (at_builtin; refine wpList_append_own_none rfl (.tmp 3) (.tmp 4) 29 rfl w.heap.size 9 i0 1 Tryd.underlying29 HI.out.1 _ _ _ rfl HE.out rfl ?_) | (at_builtin; refine wpList_append_own _ rfl (.tmp 5) (.tmp 6) 29 rfl w.heap.size 9 i0 (.string ⟨#[]⟩) 1 16 Tryd.underlying29 HI.out.1 HI.out.2.1 HI.out.2.2.1 HI.out.2.2.2 rfl (by decide) _ _ _ rfl (hO1.alloc _) ⟨w.heap.size + 1, 0, none⟩ 2 2 marks rfl ?d1 ?d2 ?d3 ?d4 ?d5 ?d6 ?_))
    case d1 => rfl
    case d2 => exact fun j u hu => hu
    case d3 => intro u hu; rcases List.mem_cons.1 hu with rfl | hu; rfl; rcases List.mem_cons.1 hu with rfl | hu; rfl; cases hu
    case d4 => unfold maxLen; omega
    case d6 => omega
    intro v2 w2 hown2 hgrow2 _
    have G2 : Gr w w2 := gr_of_grown (G1.alloc _) (hO1.alloc _) hgrow2 (by simp; omega)
    obtain ⟨g, cap, rfl, hc1, hc2⟩ := FIN.out v2 w2 (by simpa using hown2)
    have HO := Lib.hid (show w2.ownsRow w.heap.size 9 1 (.slice (some ⟨g, 0, none⟩) (0 + 2) cap) (0 + 2) ([] ++ marks) from by simpa using hown2)
    clear hown2 hgrow2 hO1
    go_wp2
    go_ret
    exact ⟨g, cap, by rw [← HN.out]; rfl, by rw [← HN.out, ← HX.out]; exact HO.out, G2⟩
  | some a =>
    have hnews : ∀ j u, xs[j]? = some u → (w.alloc (.cells #[] 9)).cell? (a.add j) = some u := by
      intro j u hu
      rw [HX.out] at hu
      obtain ⟨hj, rfl⟩ := List.getElem?_eq_some_iff.1 hu
      rw [List.length_map] at hj
      obtain ⟨b, off, hh, hc⟩ := HA.out j hj
      injection hh with hh
      subst hh
      have := Gr.cell ((Gr.refl w).alloc (.cells #[] 9)) hc
      rw [Go.WideShapes.add_plain, this]
      simp
    have HNW := Lib.hid hnews
    clear hnews
    have hone : ∀ u ∈ xs, u.oneCell' = true := by
      intro u hu
      rw [HX.out] at hu
      obtain ⟨s, _, rfl⟩ := List.mem_map.1 hu
      rfl
    have HON := Lib.hid hone
    clear hone
    go_enter Tryd.func17, Tryd.ntmps17
    go_wp2_with (at_builtin; refine wpList_append_own _ rfl (.tmp 3) (.tmp 4) 29 rfl w.heap.size 9 i0 (.string ⟨#[]⟩) 1 16 Tryd.underlying29 HI.out.1 HI.out.2.1 HI.out.2.2.1 HI.out.2.2.2 rfl (by decide) _ _ _ rfl HE.out a n c xs rfl ?e1 ?e2 ?e3 ?e4 ?e5 ?e6 ?_)
    case e1 => rw [HXL.out]; omega
    case e2 => exact HNW.out
    case e3 => exact HON.out
    case e4 => unfold maxLen; omega
    case e5 => omega
    case e6 => simp
    intro v1 w1 hown1 hgrow1 _
    have G1 : Gr w w1 := gr_of_grown ((Gr.refl w).alloc _) HE.out hgrow1 (by simp)
    have hO1 : w1.ownsRow w.heap.size 9 1 v1 n xs := by simpa using hown1
    have hB1 : w.heap.size ≤ w1.heap.size := G1.size
    clear hown1 hgrow1
    go_wp2_with (at_builtin; refine wpList_append_own _ rfl (.tmp 5) (.tmp 6) 29 rfl w.heap.size 9 i0 (.string ⟨#[]⟩) 1 16 Tryd.underlying29 HI.out.1 HI.out.2.1 HI.out.2.2.1 HI.out.2.2.2 rfl (by decide) _ _ _ rfl (hO1.alloc _) ⟨w1.heap.size, 0, none⟩ 2 2 marks rfl ?f1 ?f2 ?f3 ?f4 ?f5 ?f6 ?_)
    case f1 => rfl
    case f2 => exact HT.out _
    case f3 => intro u hu; rcases List.mem_cons.1 hu with rfl | hu; rfl; rcases List.mem_cons.1 hu with rfl | hu; rfl; cases hu
    case f4 => unfold maxLen; omega
    case f5 => omega
    case f6 => simp; omega
    intro v2 w2 hown2 hgrow2 _
    have G2 : Gr w w2 := gr_of_grown (G1.alloc _) (hO1.alloc _) hgrow2 (by simp; omega)
    obtain ⟨g, cap, rfl, hc1, hc2⟩ := FIN.out v2 w2 (by simpa using hown2)
    have HO := Lib.hid (show w2.ownsRow w.heap.size 9 1 (.slice (some ⟨g, 0, none⟩) (n + 2) cap) (n + 2) (xs ++ marks) from by simpa using hown2)
    clear hown2 hgrow2 hO1
    go_wp2
    go_ret
    exact ⟨g, cap, by rw [← HN.out]; rfl, by rw [← HN.out, ← HX.out]; exact HO.out, G2⟩
end Go.Proofs.YthmnffiiondggaaDoor
