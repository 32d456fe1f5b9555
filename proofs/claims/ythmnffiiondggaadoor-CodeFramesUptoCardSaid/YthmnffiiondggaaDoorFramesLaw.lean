/- CodeFrames: the law's walk. -/
import Derived.Test.YthmnffiiondggaaDoorFrameMath
import Derived.Laws.AppendOwnNone
namespace Go.Proofs.YthmnffiiondggaaDoor
open Go.RowKit

theorem scan_total (L : List ByteArray) (r : ByteArray) : scanAll (joinB L ++ r).data.toList = bodies L ++ scanAll r.data.toList := by
  rw [append_data, joinB_data, scan_join _ _ (bodies_ok L)]

set_option maxRecDepth 100000 in
set_option maxHeartbeats 1000000 in
theorem frames_law (v : Value) (L : List ByteArray) (w : World) (hv : SV w v L) (r : ByteArray) (hL : sizes L + r.size ≤ 1048576) (hH : Halves w) :
    Calls Tryd.prog 8 #[v, .string r] w fun e w' => e = .returned (.bool true) ∧ Gr w w' := by
  obtain ⟨i0, hi, hz0, hz1, hz2⟩ := info_parts infoString
  have HI := Lib.hid (And.intro hi (And.intro hz0 (And.intro hz1 hz2)))
  clear hi hz0 hz1 hz2
  have H1 := Lib.hid (awake_any w hH)
  have hj := joinB_size L
  have hfl : (framed L).length ≤ L.length := List.length_filter_le _ _
  have hll := sizes_len L
  have hrl : r.data.toList.length = r.size := (Lib.size_eq r).symm
  have hcr := count_bytes (scanAll r.data.toList)
  have hbr := bytesOf_scan _ r.data.toList (Nat.le_refl _)
  have ht := scan_total L r
  have hjb := joinB_len L
  have hbb : bytesOf (scanAll (joinB L ++ r).data.toList) = (joinB L).size + bytesOf (scanAll r.data.toList) := by rw [ht, bytesOf_append, hjb]
  have hmm : (scanAll (joinB L ++ r).data.toList).map bs = framed L ++ (scanAll r.data.toList).map bs := by rw [ht, List.map_append, bs_bodies]
  have hcl : (scanAll (joinB L ++ r).data.toList).length = (framed L).length + (scanAll r.data.toList).length := by rw [ht, List.length_append, bodies_len]
  have h2 := fun (w1 : World) (g : Gr w w1) => frames_any v L (by omega) w1 (hv.gr g) (hH.gr g)
  have h3 := fun (w1 : World) => rscan_any r (by omega) (by omega) w1
  have h4 := fun (w1 : World) (g : Gr w w1) => scan_any (joinB L ++ r) (by rw [append_size]; omega) (by rw [hcl]; omega) w1 (hH.gr g)
  rw [hbb, hmm] at h4
  obtain ⟨J, hJ⟩ : ∃ J, J = joinB L := ⟨_, rfl⟩
  obtain ⟨M, hM⟩ : ∃ M, M = (scanAll r.data.toList).map bs := ⟨_, rfl⟩
  obtain ⟨k, hk⟩ : ∃ k, k = bytesOf (scanAll r.data.toList) := ⟨_, rfl⟩
  have hML : M.length = (scanAll r.data.toList).length := by rw [hM, List.length_map]
  rw [← hM, ← hk] at h3 h4
  rw [← hJ] at h4 hj
  rw [← hk] at hbr hcr
  rw [hrl] at hbr
  rw [← hML] at hcr
  have H2 := Lib.hid h2
  have H3 := Lib.hid h3
  have H4 := Lib.hid h4
  have HJ := Lib.hid hJ
  clear h2 h3 h4 hJ hM hk hML hcl hmm hbb hjb ht hrl hH
  obtain ⟨F, hF⟩ : ∃ F, F = framed L := ⟨_, rfl⟩
  rw [← hF] at H4 hfl
  have HF := Lib.hid hF
  clear hF
  have hv2 := hv
  obtain ⟨A0, c0, rfl, _⟩ := hv2
  have HV := Lib.hid hv
  clear hv
  go_enter Tryd.func8, Tryd.ntmps8
  go_wp2_with fail
  refine H1.out.mono ?_
  rintro e w1 ⟨rfl, g1⟩
  go_wp2_with fail
  refine (H2.out _ g1).mono ?_
  rintro e w2 ⟨v2, rfl, hown, g2⟩
  rw [← HJ.out]
  rw [← HF.out] at hown
  have HO := Lib.hid hown
  clear hown
  go_wp2_with fail
  refine (H3.out _).mono ?_
  rintro e w3 ⟨v3, rfl, s3, g3⟩
  have hsh3 := s3.2
  have S3 := Lib.hid s3
  clear s3
  go_wp2_with fail
  refine (H4.out _ ((Gr.trans g1 g2).trans g3)).mono ?_
  rintro e w4 ⟨v4, rfl, s4, g4⟩
  have S4 := Lib.hid (SV.of_own s4)
  have O4 := Lib.hid s4
  clear s4
  have hO := own_gr (own_gr HO.out g3) g4
  have hB2 : w1.heap.size ≤ w4.heap.size := by have := g2.size; have := g3.size; have := g4.size; omega
  have hgr2 : Below w1.heap.size w1 w4 := (Gr.trans g2 g3).trans g4
  obtain ⟨fl, hfl2⟩ : ∃ n, n = F.length := ⟨_, rfl⟩
  obtain ⟨ml, hml⟩ : ∃ n, n = M.length := ⟨_, rfl⟩
  rw [← hfl2] at hO hfl
  rw [← hml] at hcr
  have HFL := Lib.hid hfl2
  have HML := Lib.hid hml
  clear hfl2 hml
  have fin : ∀ (v5 : Value) (w5 : World), w5.ownsRow w1.heap.size 9 1 v5 (fl + ml) (F.map Value.string ++ M.map Value.string) → Gr w4 w5 ∨ w4.grownBy w5 v2.ownBlock → SV w5 v5 (F ++ M) := by
    intro v5 w5 h5 _
    have : w5.ownsRow w1.heap.size 9 1 v5 (F ++ M).length ((F ++ M).map Value.string) := by rw [List.length_append, List.map_append, ← HFL.out, ← HML.out]; exact h5
    exact SV.of_own this
  have FIN := Lib.hid fin
  clear fin
  rcases hsh3 with ⟨rfl, hm0⟩ | ⟨g3b, cap3, cur3, rfl, hgb3, hgh3, hn3, hc3, _, _⟩
  · have hM0 : M = [] := List.length_eq_zero_iff.1 hm0
    have hsv : SV w4 v2 (F ++ M) := by
      rw [hM0, List.append_nil]
      have h5 := hO
      rw [HFL.out] at h5
      exact SV.of_own h5
    have HSV := Lib.hid hsv
    have hm1 : ml = 0 := by rw [HML.out]; exact hm0
    subst hm1
    clear hM0 hsv hm0
    go_wp2_with (at_builtin; refine wpList_append_own_none rfl (.tmp 31) (.tmp 32) 29 rfl w1.heap.size 9 i0 1 Tryd.underlying29 HI.out.1 _ _ _ rfl hO rfl ?_)
    refine (same_any v4 _ (F ++ M) (F ++ M) _ S4.out HSV.out).mono ?_
    rw [decide_eq_true rfl]
    rintro e w6 ⟨rfl, nq, rfl⟩
    go_wp2_with fail
    go_ret
    exact ⟨rfl, (Gr.trans g1 hgr2).drewN _⟩
  · have hnews : ∀ j u, (M.map Value.string)[j]? = some u → w4.cell? ((⟨g3b, 0, none⟩ : Addr).add j) = some u := by
      intro j u hu
      exact g4.cell (S3.out.cells (g := g3b) rfl j u hu)
    have HNW := Lib.hid hnews
    rw [← HML.out] at hn3 ⊢
    clear hnews hgh3 hgb3 hc3
    go_wp2_with (at_builtin; refine wpList_append_own _ rfl (.tmp 31) (.tmp 32) 29 rfl w1.heap.size 9 i0 (.string ⟨#[]⟩) 1 16 Tryd.underlying29 HI.out.1 HI.out.2.1 HI.out.2.2.1 HI.out.2.2.2 rfl (by decide) _ _ _ rfl hO ⟨g3b, 0, none⟩ ml cap3 (M.map Value.string) rfl ?c1 ?c2 ?c3 ?c4 ?c5 ?c6 ?_)
    case c1 => rw [List.length_map, ← HML.out]; omega
    case c2 => exact HNW.out
    case c3 => intro u hu; obtain ⟨s, _, rfl⟩ := List.mem_map.1 hu; rfl
    case c4 => unfold maxLen; omega
    case c5 => omega
    case c6 => exact hB2
    intro v' w5 hown5 hgrow _
    have hsv : SV w5 v' (F ++ M) := FIN.out v' w5 hown5 (Or.inr hgrow)
    have hgr3 : Below w1.heap.size w1 w5 := gr_of_grown hgr2 hO hgrow hB2
    have hO4 : w5.ownsRow w3.heap.size 9 1 v4 (F ++ M).length ((F ++ M).map Value.string) := by
      refine O4.out.kept hgrow ?_
      cases h4 : v4.ownBlock with
      | none => exact Or.inl rfl
      | some b4 =>
        refine Or.inr (fun h => ?_)
        have h2 := HO.out.lt b4 h.symm
        have h3 := O4.out.lt b4 h4
        have h5 := g3.size
        omega
    have HSV := Lib.hid hsv
    have HS4 := Lib.hid (SV.of_own hO4)
    clear hown5 hgrow hsv hO4 hO hn3
    go_wp2_with fail
    refine (same_any v4 _ (F ++ M) (F ++ M) _ HS4.out HSV.out).mono ?_
    rw [decide_eq_true rfl]
    rintro e w6 ⟨rfl, nq, rfl⟩
    go_wp2_with fail
    go_ret
    exact ⟨rfl, (Gr.trans g1 hgr3).drewN _⟩
theorem frames_law2 (w : World) (v : Value) (L : List ByteArray) (hv : SV w v L) (_ : sizes L ≤ 1048576) (r : ByteArray) (hL : sizes L + r.size ≤ 1048576) (hH : Halves w) :
    Calls Tryd.prog 8 #[v, .string r] w fun e w' => e = .returned (.bool true) ∧ Gr w w' := frames_law v L w hv r hL hH
end Go.Proofs.YthmnffiiondggaaDoor
