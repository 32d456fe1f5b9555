/- The law DiskCrashes: crashes, copies and reads alike. -/
import Derived.Test.YtonlplfjiaejhaaLawD
namespace Go.Proofs.Ytonlplfjiaejhaa
open Go.RowKit

abbrev ES (W : World) (a b : Nat) (va vb : Value) (w' : World) : Prop := w'.cell? ⟨a, 0, none⟩ = some va ∧ w'.cell? ⟨b, 0, none⟩ = some vb ∧ Gr W w'
theorem ES.gr {W : World} {a b : Nat} {va vb : Value} {w1 w2 : World} (h : ES W a b va vb w1) (q : Gr w1 w2) : ES W a b va vb w2 := ⟨q.cell h.1, q.cell h.2.1, h.2.2.trans q⟩
theorem same_yes (va vb : Value) (L : List F) (w : World) (ha : FV w va L) (hb : FV w vb L) : Calls Try.prog 15 #[.agg #[va], .agg #[vb]] w fun e w' => e = .returned (.bool true) ∧ Gr w w' := by
  have h := same_any va vb L L w ha hb
  rw [sameB_yes rfl] at h
  exact h

set_option maxRecDepth 100000 in
set_option maxHeartbeats 4000000 in
theorem diskCrashes_any (v vk : Value) (L : List F) (K : List Int) (nm : ByteArray) (w : World) (hv : FV w v L) (hk : IV w vk K) (hf : Fit L) (hlen : (L.length + 1) * 48 ≤ 140737488355328) :
    Calls Try.prog 4 #[.agg #[v], vk, .string nm] w fun e w' => e = .returned (.bool true) ∧ Gr w w' := by
  obtain ⟨A, c, hva, _⟩ := id hv
  obtain ⟨Ak, ck, hvk, _⟩ := id hk
  have HV := Lib.hid hv
  have HK := Lib.hid hk
  subst hva hvk
  have HFIT := Lib.hid hf
  clear hv hk hf
  obtain ⟨n, hn⟩ : ∃ n, n = L.length := ⟨_, rfl⟩
  obtain ⟨m, hm⟩ : ∃ n, n = K.length := ⟨_, rfl⟩
  have HN := Lib.hid hn
  rw [← hn] at HV hlen
  rw [← hm] at HK
  rw [← hn, ← hm]
  clear hn hm
  have HA := Lib.hid (fun w1 => awake_any w1)
  go_enter Try.func4, Try.ntmps4
  go_wp2_with fail
  refine (HA.out _).mono ?_
  rintro e w1 ⟨rfl, g1⟩
  have b1 : w1.cell? ⟨w.heap.size, 0, none⟩ = some (.slice A n c) := g1.cell (by simp)
  have G1 := Lib.hid ((gr_box w (.cells #[.slice A n c] 24)).trans g1)
  clear g1
  go_wp2_with fail
  have HRM := Lib.hid (roomy_any (.slice A n c) L w1 (HV.out.gr G1.out) (by rw [← HN.out]; exact hlen))
  refine HRM.out.mono ?_
  rintro e w2 ⟨v2, rfl, hm2, g2⟩
  obtain ⟨gm, cm, hv2, hmr⟩ := id hm2
  rw [← HN.out] at hv2
  subst hv2
  have b2 := g2.cell b1
  have HMO : Hid (MO w2 w1.heap.size (.slice (some ⟨gm, 0, none⟩) n cm) L) := Lib.hid hm2
  have G2 := Lib.hid (G1.out.trans g2)
  clear hm2 hmr g2 b1 HRM
  obtain ⟨W3, hW3, G3, x3, hz3⟩ : ∃ W3, W3 = w2.alloc (.cells #[.slice (some ⟨gm, 0, none⟩) n cm] 24) ∧ Gr w2 W3 ∧ W3.cell? ⟨w2.heap.size, 0, none⟩ = some (.slice (some ⟨gm, 0, none⟩) n cm) ∧ w2.heap.size < W3.heap.size := ⟨_, rfl, gr_box w2 _, by simp, by simp⟩
  go_upto_region 4 with (fail)
  rw [← hW3]
  clear hW3
  have b3 := G3.cell b2
  have HM3 := Lib.hid (HMO.out.gr G3)
  have HG3 := Lib.hid (G2.out.trans G3)
  obtain ⟨h7, hh7⟩ : ∃ h, h = w2.heap.size := ⟨_, rfl⟩
  rw [← hh7] at x3 hz3 ⊢
  have HES : Hid (ES W3 h7 w.heap.size (.slice (some ⟨gm, 0, none⟩) n cm) (.slice A n c) W3) := Lib.hid ⟨x3, b3, Gr.refl _⟩
  have hl48 : L.length * 48 ≤ 140737488355328 := by rw [← HN.out]; omega
  have HCR := Lib.hid (fun w' (q : Gr W3 w') => crash_any _ _ L K w' (HM3.out.fo.gr q).fv (HK.out.gr (HG3.out.trans q)) HFIT.out hl48)
  have HRC := Lib.hid (fun w' (q : Gr W3 w') => rcrash_any _ _ L K w' (HV.out.gr (HG3.out.trans q)) (HK.out.gr (HG3.out.trans q)) HFIT.out hl48)
  have HCP := Lib.hid (fun w' (q : Gr W3 w') => copy_any _ L w' (HM3.out.fo.gr q).fv HFIT.out hl48)
  have HKP := Lib.hid (fun w' (q : Gr W3 w') => kept_any _ _ L _ w' (HM3.out.gr q) (HV.out.gr (HG3.out.trans q)))
  have HBY := Lib.hid (fun w' (q : Gr W3 w') => bytes_any _ L nm w' (HM3.out.fo.gr q).fv HFIT.out)
  have HRB := Lib.hid (fun w' (q : Gr W3 w') => rbytes_any _ L nm w' (HV.out.gr (HG3.out.trans q)) HFIT.out)
  clear b2 hh7 hl48 b3 x3 hz3 G3
  go_region_held3 (fun w' => ES W3 h7 w.heap.size (.slice (some ⟨gm, 0, none⟩) n cm) (.slice A n c) w')
    (first
      | (with_reducible exact HES.out)
      | (with_reducible exact ES.gr HES.out (Gr.refl _).drew)
      | (with_reducible refine ES.gr ?_ hb4; with_reducible assumption)
      | (with_reducible refine ES.gr ?_ hb5; with_reducible assumption)
      | (with_reducible refine ES.gr ?_ hb6; with_reducible assumption)
      | (with_reducible refine ES.gr ?_ hb7; with_reducible assumption)
      | (with_reducible refine ES.gr ?_ hb8; with_reducible assumption)
      | (with_reducible refine ES.gr ?_ hb9; with_reducible assumption))
    (first
      | (go_at_call 17; (with_reducible refine (HCR.out _ ?_).mono ?_); exact (‹ES _ _ _ _ _ _›).2.2; rintro e w4 ⟨v4, rfl, hf4, hb4⟩)
      | (go_at_call 18; (with_reducible refine (HRC.out _ ?_).mono ?_); exact (‹ES _ _ _ _ _ _›).2.2; rintro e w5 ⟨v5, rfl, hf5, hb5⟩)
      | (go_at_call 19; (with_reducible refine (HCP.out _ ?_).mono ?_); exact (‹ES _ _ _ _ _ _›).2.2; rintro e w7 ⟨v7, rfl, hf7, hb7⟩)
      | (go_at_call 16; (with_reducible refine (HKP.out _ ?_).mono ?_); exact (‹ES _ _ _ _ _ _›).2.2; rintro e w9 ⟨rfl, hb9⟩)
      | (go_at_call 15; (with_reducible refine (same_yes _ _ L _ hf7.fv (HV.out.gr ?_)).mono ?_); exact (HG3.out.trans (‹ES _ _ _ _ _ _›).2.2); rintro e w8 ⟨rfl, hb8⟩)
      | (go_at_call 15; (with_reducible refine (same_yes _ _ _ _ (hf4.gr hb5).fv hf5.fv).mono ?_); rintro e w6 ⟨rfl, hb6⟩))
  have HES9 := Lib.hid ‹ES W3 h7 w.heap.size (.slice (some ⟨gm, 0, none⟩) n cm) (.slice A n c) w9›
  obtain ⟨x, hx⟩ : ∃ x, x = (bytesF L nm).1 := ⟨_, rfl⟩
  obtain ⟨k, hk⟩ : ∃ k, k = (bytesF L nm).2 := ⟨_, rfl⟩
  unfold bytesV at HBY HRB
  rw [← hx, ← hk] at HBY HRB
  have c7 := HES9.out.1
  have hxx : (x.toList == x.toList) = true := eqS_self x
  clear hb4 hb5 hb6 hb7 hb8 hb9 hf4 hf5 hf7 hx hk
  go_wp2_with fail
  refine (HBY.out _ HES9.out.2.2).mono ?_
  rintro e w10 ⟨rfl, g10⟩
  have d3 := g10.cell HES9.out.2.1
  have HG10 := Lib.hid (HES9.out.2.2.trans g10)
  clear g10 c7
  go_wp2_with fail
  refine (HRB.out _ HG10.out).mono ?_
  rintro e w11 ⟨rfl, g11⟩
  have HG11 := Lib.hid (HG3.out.trans (HG10.out.trans g11))
  clear g11 d3
  go_wp2_with fail
  go_ret
  exact ⟨rfl, HG11.out⟩
end Go.Proofs.Ytonlplfjiaejhaa
