/- CodeBack: the law's walk. -/
import Derived.Test.YthmnffiiondggaaDoorPackMath
import Derived.Test.YthmnffiiondggaaDoorCopy
namespace Go.Proofs.YthmnffiiondggaaDoor
open Go.RowKit

set_option maxRecDepth 100000 in
set_option maxHeartbeats 2000000 in
theorem back_law (w : World) (v : Value) (L : List ByteArray) (hv : SV w v L) (hlen : (L.length + 2) * 16 ≤ 140737488355328) (hmax : ∀ s ∈ L, s.size ≤ 281474976710656) (s : ByteArray) (hs : s.size ≤ maxLen) (hH : Halves w) :
    Calls Tryd.prog 5 #[v, .string s] w fun e w' => e = .returned (.bool true) ∧ Gr w w' := by
  have H1 := Lib.hid (awake_any w hH)
  have hmax2 : ∀ s ∈ L, s.size ≤ maxLen := fun s hs => by have := hmax s hs; unfold maxLen; omega
  have H3 := Lib.hid (fun (vr : Value) (w1 : World) (h : SV w1 vr L) => pack_any vr L w1 h hmax2)
  have H5 := Lib.hid (fun (w1 : World) => unpack_any s hs w1)
  have HV := Lib.hid hv
  clear hv hmax hmax2 hH hs
  obtain ⟨A0, c0, rfl, _⟩ := HV.out
  have h16 : L.length * 16 ≤ 140737488355328 := by omega
  clear hlen
  rcases hu : unpackL s.data.toList with _ | fs
  · rw [hu] at H5
    unfold RetUnpack at H5
    simp only [] at H5
    clear hu
    by_cases hok : okPack L
    ·
      have hpv := packVal_yes hok
      rw [hpv] at H3
      have hp : unpackL (bs (packL L)).data.toList = some (L.map (·.data.toList)) := unpack_pack hok
      have hz : (bs (packL L)).size ≤ maxLen := by rw [bs_size, packL_length]; have := hok.2.2; unfold maxLen; omega
      have h6 := fun (w1 : World) => unpack_any (bs (packL L)) hz w1
      rw [hp] at h6
      unfold RetUnpack at h6
      simp only [map_bs_data] at h6
      have H6 := Lib.hid h6
      obtain ⟨P, hP⟩ : ∃ P, P = bs (packL L) := ⟨_, rfl⟩
      rw [← hP] at H3 H6
      clear hpv hp hz h6 hP hok
      go_enter Tryd.func5, Tryd.ntmps5
      go_wp2_with fail
      refine H1.out.mono ?_
      rintro e w1 ⟨rfl, g1⟩
      have hv1 := HV.out.gr g1
      go_wp2_with (at_builtin; refine wpList_copy_sv rfl (.tmp 15) (.tmp 16) rfl rfl _ L rfl hv1 h16 ?_)
      intro v2 w2 hown2 G12
      have HS2 := Lib.hid (SV.of_own hown2)
      have G2 : Gr w w2 := Gr.trans g1 G12
      clear hown2 hv1
      go_wp2_with fail
      refine (H3.out _ _ HS2.out).mono ?_
      rintro e w3 ⟨rfl, g3⟩
      go_wp2_with fail
      refine (H6.out _).mono ?_
      rintro e w4 ⟨v4, rfl, hown4, g4⟩
      have HS4 := Lib.hid (SV.of_own hown4)
      clear hown4
      have G4 : Gr w w4 := (G2.trans g3).trans g4
      go_wp2_with fail
      refine (same_any v4 _ L L _ HS4.out (HV.out.gr G4)).mono ?_
      rw [decide_eq_true rfl]
      rintro e w5 ⟨rfl, nq, rfl⟩
      have G5 : Gr w (w4.drewN nq) := G4.drewN nq
      generalize w4.drewN nq = w5 at *
      go_wp2_with fail
      refine (H5.out _).mono ?_
      rintro e w6 ⟨rfl, g6⟩
      go_wp2_with fail
      go_ret
      exact ⟨rfl, G5.trans g6⟩
    ·
      rw [packVal_no hok] at H3
      clear hok
      go_enter Tryd.func5, Tryd.ntmps5
      go_wp2_with fail
      refine H1.out.mono ?_
      rintro e w1 ⟨rfl, g1⟩
      have hv1 := HV.out.gr g1
      go_wp2_with (at_builtin; refine wpList_copy_sv rfl (.tmp 15) (.tmp 16) rfl rfl _ L rfl hv1 h16 ?_)
      intro v2 w2 hown2 G12
      have HS2 := Lib.hid (SV.of_own hown2)
      have G2 : Gr w w2 := Gr.trans g1 G12
      clear hown2 hv1
      go_wp2_with fail
      refine (H3.out _ _ HS2.out).mono ?_
      rintro e w3 ⟨rfl, g3⟩
      go_wp2_with fail
      have G5 : Gr w w3 := G2.trans g3
      refine (H5.out _).mono ?_
      rintro e w6 ⟨rfl, g6⟩
      go_wp2_with fail
      go_ret
      exact ⟨rfl, G5.trans g6⟩
  · rw [hu] at H5
    unfold RetUnpack at H5
    simp only [] at H5
    have hback := unpack_back hu
    have h7 := fun (vr : Value) (w1 : World) (h : SV w1 vr (fs.map bs)) => pack_any vr (fs.map bs) w1 h (fun x hx => by have := hback.1.2.1 x hx; unfold maxLen; omega)
    rw [packVal_yes hback.1, hback.2, bs_data] at h7
    have H7 := Lib.hid h7
    clear h7 hback hu
    by_cases hok : okPack L
    ·
      have hpv := packVal_yes hok
      rw [hpv] at H3
      have hp : unpackL (bs (packL L)).data.toList = some (L.map (·.data.toList)) := unpack_pack hok
      have hz : (bs (packL L)).size ≤ maxLen := by rw [bs_size, packL_length]; have := hok.2.2; unfold maxLen; omega
      have h6 := fun (w1 : World) => unpack_any (bs (packL L)) hz w1
      rw [hp] at h6
      unfold RetUnpack at h6
      simp only [map_bs_data] at h6
      have H6 := Lib.hid h6
      obtain ⟨P, hP⟩ : ∃ P, P = bs (packL L) := ⟨_, rfl⟩
      rw [← hP] at H3 H6
      clear hpv hp hz h6 hP hok
      go_enter Tryd.func5, Tryd.ntmps5
      go_wp2_with fail
      refine H1.out.mono ?_
      rintro e w1 ⟨rfl, g1⟩
      have hv1 := HV.out.gr g1
      go_wp2_with (at_builtin; refine wpList_copy_sv rfl (.tmp 15) (.tmp 16) rfl rfl _ L rfl hv1 h16 ?_)
      intro v2 w2 hown2 G12
      have HS2 := Lib.hid (SV.of_own hown2)
      have G2 : Gr w w2 := Gr.trans g1 G12
      clear hown2 hv1
      go_wp2_with fail
      refine (H3.out _ _ HS2.out).mono ?_
      rintro e w3 ⟨rfl, g3⟩
      go_wp2_with fail
      refine (H6.out _).mono ?_
      rintro e w4 ⟨v4, rfl, hown4, g4⟩
      have HS4 := Lib.hid (SV.of_own hown4)
      clear hown4
      have G4 : Gr w w4 := (G2.trans g3).trans g4
      go_wp2_with fail
      refine (same_any v4 _ L L _ HS4.out (HV.out.gr G4)).mono ?_
      rw [decide_eq_true rfl]
      rintro e w5 ⟨rfl, nq, rfl⟩
      have G5 : Gr w (w4.drewN nq) := G4.drewN nq
      generalize w4.drewN nq = w5 at *
      go_wp2_with fail
      refine (H5.out _).mono ?_
      rintro e w6 ⟨v6, rfl, hown6, g6⟩
      have HS6 := Lib.hid (SV.of_own hown6)
      clear hown6
      go_wp2_with fail
      refine (H7.out _ _ HS6.out).mono ?_
      rintro e w7 ⟨rfl, g7⟩
      go_wp2_with fail
      go_ret
      exact ⟨by simp, (G5.trans g6).trans g7⟩
    ·
      rw [packVal_no hok] at H3
      clear hok
      go_enter Tryd.func5, Tryd.ntmps5
      go_wp2_with fail
      refine H1.out.mono ?_
      rintro e w1 ⟨rfl, g1⟩
      have hv1 := HV.out.gr g1
      go_wp2_with (at_builtin; refine wpList_copy_sv rfl (.tmp 15) (.tmp 16) rfl rfl _ L rfl hv1 h16 ?_)
      intro v2 w2 hown2 G12
      have HS2 := Lib.hid (SV.of_own hown2)
      have G2 : Gr w w2 := Gr.trans g1 G12
      clear hown2 hv1
      go_wp2_with fail
      refine (H3.out _ _ HS2.out).mono ?_
      rintro e w3 ⟨rfl, g3⟩
      go_wp2_with fail
      have G5 : Gr w w3 := G2.trans g3
      refine (H5.out _).mono ?_
      rintro e w6 ⟨v6, rfl, hown6, g6⟩
      have HS6 := Lib.hid (SV.of_own hown6)
      clear hown6
      go_wp2_with fail
      refine (H7.out _ _ HS6.out).mono ?_
      rintro e w7 ⟨rfl, g7⟩
      go_wp2_with fail
      go_ret
      exact ⟨by simp, (G5.trans g6).trans g7⟩
end Go.Proofs.YthmnffiiondggaaDoor
