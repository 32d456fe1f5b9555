/- CodeUnlike: the law's walk. -/
import Derived.Test.YthmnffiiondggaaDoorPackMath
import Derived.Test.YthmnffiiondggaaDoorCopy
import Derived.Test.YthmnffiiondggaaDoorOpen
namespace Go.Proofs.YthmnffiiondggaaDoor
open Go.RowKit

def UnlikeRel (L : List ByteArray) (n i : Value) : Prop := ∃ k : Nat, k ≤ L.length ∧ i = .int .i64 k ∧ n = .int .i64 ((4 + tot (L.take k) : Nat) : Int)

set_option maxRecDepth 100000 in
set_option maxHeartbeats 2000000 in
theorem unlike_law (w : World) (va : Value) (La : List ByteArray) (ha : SV w va La) (hla : sizes La ≤ 1048576) (vb : Value) (Lb : List ByteArray) (hb : SV w vb Lb) (hlb : sizes Lb ≤ 1048576) (hH : Halves w) :
    Calls Tryd.prog 11 #[va, vb] w fun e w' => e = .returned (.bool true) ∧ Gr w w' := by
  have H1 := Lib.hid (awake_any w hH)
  have hma : ∀ s ∈ La, s.size ≤ maxLen := fun s hs => by have := sizes_mem hs; unfold maxLen; omega
  have hmb : ∀ s ∈ Lb, s.size ≤ maxLen := fun s hs => by have := sizes_mem hs; unfold maxLen; omega
  have H3 := Lib.hid (fun (vr : Value) (w1 : World) (h : SV w1 vr La) => pack_any vr La w1 h hma)
  have H4 := Lib.hid (fun (vr : Value) (w1 : World) (h : SV w1 vr Lb) => pack_any vr Lb w1 h hmb)
  have h16a : La.length * 16 ≤ 140737488355328 := by have := sizes_len La; omega
  have h16b : Lb.length * 16 ≤ 140737488355328 := by have := sizes_len Lb; omega
  have HA := Lib.hid ha
  have HB := Lib.hid hb
  clear ha hb hma hmb hH hla hlb
  obtain ⟨A0, c0, rfl, a1, a2, a3⟩ := HA.out
  obtain ⟨B0, d0, rfl, _⟩ := HB.out
  have HC := Lib.hid a3
  have ac : c0 ≤ 9223372036854775807 := a2.1
  clear a2 a3
  obtain ⟨n, hn⟩ : ∃ n, n = La.length := ⟨_, rfl⟩
  have HN := Lib.hid hn
  clear hn
  by_cases hoa : okPack La
  · rw [packVal_yes hoa] at H3
    have HOA := Lib.hid hoa
    clear hoa
    by_cases hob : okPack Lb
    · rw [packVal_yes hob] at H4
      have HOB := Lib.hid hob
      clear hob
      by_cases heq : La = Lb
      ·
        have HEQ := Lib.hid heq
        clear heq
        go_enter Tryd.func11, Tryd.ntmps11
        go_wp2_with fail
        refine H1.out.mono ?_
        rintro e w1 ⟨rfl, g1⟩
        have hv1 := HA.out.gr g1
        go_wp2_with (at_builtin; refine wpList_copy_sv rfl (.tmp 14) (.tmp 15) rfl rfl _ La rfl hv1 h16a ?_)
        intro v2 w2 hown2 G12
        have HS2 := Lib.hid (SV.of_own hown2)
        have G2 : Gr w w2 := Gr.trans g1 G12
        clear hown2 hv1
        go_wp2_with fail
        refine (H3.out _ _ HS2.out).mono ?_
        rintro e w3 ⟨rfl, g3⟩
        have G3 : Gr w w3 := G2.trans g3
        have hv3 := HB.out.gr G3
        go_wp2_with (at_builtin; refine wpList_copy_sv rfl (.tmp 21) (.tmp 22) rfl rfl _ Lb rfl hv3 h16b ?_)
        intro v4 w4 hown4 G34
        have HS4 := Lib.hid (SV.of_own hown4)
        have G4 : Gr w w4 := G3.trans G34
        clear hown4 hv3
        go_wp2_with fail
        refine (H4.out _ _ HS4.out).mono ?_
        rintro e w5 ⟨rfl, g5⟩
        have G5 : Gr w w5 := G4.trans g5
        go_wp2_with fail
        go_loop [9, 10] (fun m i => UnlikeRel La m i) (fun _ i => n - (intOf i).toNat)
        case atStart => exact ⟨0, Nat.zero_le _, rfl, rfl⟩
        case round =>
          obtain ⟨k, hk, rfl, rfl⟩ := hrel
          rw [← HN.out] at hk
          obtain ⟨t, ht⟩ : ∃ t, t = tot (La.take k) := ⟨_, rfl⟩
          have htl : t ≤ tot La := by rw [ht]; exact tot_take_le _ _
          have htt : tot La ≤ 1048572 := by have := HOA.out.2.2; omega
          rw [← ht]
          rw [show ((4 + t : Nat) : Int) = 4 + (t : Int) from by omega]
          by_cases hlt : k < n
          · have hkL : k < La.length := by rw [← HN.out]; exact hlt
            obtain ⟨b, off, rfl, hca⟩ := HC.out k hkL
            have hca := G5.cell hca
            have hts := tot_take_succ La k hkL
            have htl2 := tot_take_le La (k + 1)
            obtain ⟨x, hx⟩ : ∃ x, x = La[k] := ⟨_, rfl⟩
            rw [← hx] at hca hts
            rw [← ht] at hts
            rw [hts] at htl2
            have HS := Lib.hid hts
            clear hts hx ht
            rw [← HN.out]
            go_wp2_with fail
            go_round
            case rel => exact ⟨k + 1, by rw [← HN.out]; omega, by go_num, by rw [HS.out]; go_num⟩
            case measure => simp [intOf]; omega
          · have hkn : La.take k = La := List.take_of_length_le (by rw [← HN.out]; omega)
            rw [hkn] at ht
            have HT := Lib.hid ht
            have hz : (bs (packL La)).size = 4 + t := by rw [bs_size, packL_length, HT.out]
            have hsame := fun (w6 : World) (g : Gr w w6) => same_any _ _ La Lb w6 (HA.out.gr g) (HB.out.gr g)
            rw [decide_eq_true HEQ.out] at hsame
            have hstr : ((bs (packL La)).toList == (bs (packL Lb)).toList) = true := by rw [HEQ.out]; simp
            obtain ⟨X, hX⟩ : ∃ X, X = bs (packL La) := ⟨_, rfl⟩
            rw [← hX] at hz hstr ⊢
            obtain ⟨Y, hY⟩ : ∃ Y, Y = bs (packL Lb) := ⟨_, rfl⟩
            rw [← hY] at hstr ⊢
            have HSM := Lib.hid hsame
            clear ht hkn hX hY hsame
            rw [← HN.out]
            rw [← HN.out] at HSM
            go_wp2_with fail
            refine (HSM.out _ G5).mono ?_
            rintro e w6 ⟨rfl, nq, rfl⟩
            go_wp2_with fail
            go_ret
            exact ⟨by simp, G5.drewN _⟩
      ·
        have HEQ := Lib.hid heq
        clear heq
        go_enter Tryd.func11, Tryd.ntmps11
        go_wp2_with fail
        refine H1.out.mono ?_
        rintro e w1 ⟨rfl, g1⟩
        have hv1 := HA.out.gr g1
        go_wp2_with (at_builtin; refine wpList_copy_sv rfl (.tmp 14) (.tmp 15) rfl rfl _ La rfl hv1 h16a ?_)
        intro v2 w2 hown2 G12
        have HS2 := Lib.hid (SV.of_own hown2)
        have G2 : Gr w w2 := Gr.trans g1 G12
        clear hown2 hv1
        go_wp2_with fail
        refine (H3.out _ _ HS2.out).mono ?_
        rintro e w3 ⟨rfl, g3⟩
        have G3 : Gr w w3 := G2.trans g3
        have hv3 := HB.out.gr G3
        go_wp2_with (at_builtin; refine wpList_copy_sv rfl (.tmp 21) (.tmp 22) rfl rfl _ Lb rfl hv3 h16b ?_)
        intro v4 w4 hown4 G34
        have HS4 := Lib.hid (SV.of_own hown4)
        have G4 : Gr w w4 := G3.trans G34
        clear hown4 hv3
        go_wp2_with fail
        refine (H4.out _ _ HS4.out).mono ?_
        rintro e w5 ⟨rfl, g5⟩
        have G5 : Gr w w5 := G4.trans g5
        go_wp2_with fail
        go_loop [9, 10] (fun m i => UnlikeRel La m i) (fun _ i => n - (intOf i).toNat)
        case atStart => exact ⟨0, Nat.zero_le _, rfl, rfl⟩
        case round =>
          obtain ⟨k, hk, rfl, rfl⟩ := hrel
          rw [← HN.out] at hk
          obtain ⟨t, ht⟩ : ∃ t, t = tot (La.take k) := ⟨_, rfl⟩
          have htl : t ≤ tot La := by rw [ht]; exact tot_take_le _ _
          have htt : tot La ≤ 1048572 := by have := HOA.out.2.2; omega
          rw [← ht]
          rw [show ((4 + t : Nat) : Int) = 4 + (t : Int) from by omega]
          by_cases hlt : k < n
          · have hkL : k < La.length := by rw [← HN.out]; exact hlt
            obtain ⟨b, off, rfl, hca⟩ := HC.out k hkL
            have hca := G5.cell hca
            have hts := tot_take_succ La k hkL
            have htl2 := tot_take_le La (k + 1)
            obtain ⟨x, hx⟩ : ∃ x, x = La[k] := ⟨_, rfl⟩
            rw [← hx] at hca hts
            rw [← ht] at hts
            rw [hts] at htl2
            have HS := Lib.hid hts
            clear hts hx ht
            rw [← HN.out]
            go_wp2_with fail
            go_round
            case rel => exact ⟨k + 1, by rw [← HN.out]; omega, by go_num, by rw [HS.out]; go_num⟩
            case measure => simp [intOf]; omega
          · have hkn : La.take k = La := List.take_of_length_le (by rw [← HN.out]; omega)
            rw [hkn] at ht
            have HT := Lib.hid ht
            have hz : (bs (packL La)).size = 4 + t := by rw [bs_size, packL_length, HT.out]
            have hsame := fun (w6 : World) (g : Gr w w6) => same_any _ _ La Lb w6 (HA.out.gr g) (HB.out.gr g)
            rw [decide_eq_false HEQ.out] at hsame
            have hstr : ((bs (packL La)).toList == (bs (packL Lb)).toList) = false := by
              rw [beq_eq_false_iff_ne]
              intro h
              have h2 := strEq h
              have h3 : packL La = packL Lb := by have := congrArg (fun b : ByteArray => b.data.toList) h2; simpa [bs] using this
              exact HEQ.out (pack_inj HOA.out HOB.out h3)
            obtain ⟨X, hX⟩ : ∃ X, X = bs (packL La) := ⟨_, rfl⟩
            rw [← hX] at hz hstr ⊢
            obtain ⟨Y, hY⟩ : ∃ Y, Y = bs (packL Lb) := ⟨_, rfl⟩
            rw [← hY] at hstr ⊢
            have HSM := Lib.hid hsame
            clear ht hkn hX hY hsame
            rw [← HN.out]
            rw [← HN.out] at HSM
            go_wp2_with fail
            refine (HSM.out _ G5).mono ?_
            rintro e w6 ⟨rfl, nq, rfl⟩
            go_wp2_with fail
            go_ret
            exact ⟨by simp, G5.drewN _⟩
    · rw [packVal_no hob] at H4
      clear hob
      go_enter Tryd.func11, Tryd.ntmps11
      go_wp2_with fail
      refine H1.out.mono ?_
      rintro e w1 ⟨rfl, g1⟩
      have hv1 := HA.out.gr g1
      go_wp2_with (at_builtin; refine wpList_copy_sv rfl (.tmp 14) (.tmp 15) rfl rfl _ La rfl hv1 h16a ?_)
      intro v2 w2 hown2 G12
      have HS2 := Lib.hid (SV.of_own hown2)
      have G2 : Gr w w2 := Gr.trans g1 G12
      clear hown2 hv1
      go_wp2_with fail
      refine (H3.out _ _ HS2.out).mono ?_
      rintro e w3 ⟨rfl, g3⟩
      have G3 : Gr w w3 := G2.trans g3
      have hv3 := HB.out.gr G3
      go_wp2_with (at_builtin; refine wpList_copy_sv rfl (.tmp 21) (.tmp 22) rfl rfl _ Lb rfl hv3 h16b ?_)
      intro v4 w4 hown4 G34
      have HS4 := Lib.hid (SV.of_own hown4)
      have G4 : Gr w w4 := G3.trans G34
      clear hown4 hv3
      go_wp2_with fail
      refine (H4.out _ _ HS4.out).mono ?_
      rintro e w5 ⟨rfl, g5⟩
      have G5 : Gr w w5 := G4.trans g5
      go_wp2_with fail
      go_ret
      exact ⟨rfl, G5⟩
  · rw [packVal_no hoa] at H3
    clear hoa
    by_cases hob : okPack Lb
    · rw [packVal_yes hob] at H4
      clear hob
      go_enter Tryd.func11, Tryd.ntmps11
      go_wp2_with fail
      refine H1.out.mono ?_
      rintro e w1 ⟨rfl, g1⟩
      have hv1 := HA.out.gr g1
      go_wp2_with (at_builtin; refine wpList_copy_sv rfl (.tmp 14) (.tmp 15) rfl rfl _ La rfl hv1 h16a ?_)
      intro v2 w2 hown2 G12
      have HS2 := Lib.hid (SV.of_own hown2)
      have G2 : Gr w w2 := Gr.trans g1 G12
      clear hown2 hv1
      go_wp2_with fail
      refine (H3.out _ _ HS2.out).mono ?_
      rintro e w3 ⟨rfl, g3⟩
      have G3 : Gr w w3 := G2.trans g3
      have hv3 := HB.out.gr G3
      go_wp2_with (at_builtin; refine wpList_copy_sv rfl (.tmp 21) (.tmp 22) rfl rfl _ Lb rfl hv3 h16b ?_)
      intro v4 w4 hown4 G34
      have HS4 := Lib.hid (SV.of_own hown4)
      have G4 : Gr w w4 := G3.trans G34
      clear hown4 hv3
      go_wp2_with fail
      refine (H4.out _ _ HS4.out).mono ?_
      rintro e w5 ⟨rfl, g5⟩
      have G5 : Gr w w5 := G4.trans g5
      go_wp2_with fail
      go_ret
      exact ⟨rfl, G5⟩
    · rw [packVal_no hob] at H4
      clear hob
      go_enter Tryd.func11, Tryd.ntmps11
      go_wp2_with fail
      refine H1.out.mono ?_
      rintro e w1 ⟨rfl, g1⟩
      have hv1 := HA.out.gr g1
      go_wp2_with (at_builtin; refine wpList_copy_sv rfl (.tmp 14) (.tmp 15) rfl rfl _ La rfl hv1 h16a ?_)
      intro v2 w2 hown2 G12
      have HS2 := Lib.hid (SV.of_own hown2)
      have G2 : Gr w w2 := Gr.trans g1 G12
      clear hown2 hv1
      go_wp2_with fail
      refine (H3.out _ _ HS2.out).mono ?_
      rintro e w3 ⟨rfl, g3⟩
      have G3 : Gr w w3 := G2.trans g3
      have hv3 := HB.out.gr G3
      go_wp2_with (at_builtin; refine wpList_copy_sv rfl (.tmp 21) (.tmp 22) rfl rfl _ Lb rfl hv3 h16b ?_)
      intro v4 w4 hown4 G34
      have HS4 := Lib.hid (SV.of_own hown4)
      have G4 : Gr w w4 := G3.trans G34
      clear hown4 hv3
      go_wp2_with fail
      refine (H4.out _ _ HS4.out).mono ?_
      rintro e w5 ⟨rfl, g5⟩
      have G5 : Gr w w5 := G4.trans g5
      go_wp2_with fail
      go_ret
      exact ⟨rfl, G5⟩
end Go.Proofs.YthmnffiiondggaaDoor
