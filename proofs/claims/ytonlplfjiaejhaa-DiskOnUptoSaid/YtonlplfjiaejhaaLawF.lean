/- The law DiskCalm: a second crash takes nothing. -/
import Derived.Test.YtonlplfjiaejhaaLawE
namespace Go.Proofs.Ytonlplfjiaejhaa
open Go.RowKit

set_option maxRecDepth 100000 in
set_option maxHeartbeats 4000000 in
theorem diskCalm_any (v vk vm : Value) (L : List F) (K M : List Int) (w : World) (hv : FV w v L) (hk : IV w vk K) (hm : IV w vm M) (hf : Fit L) (hlen : L.length * 48 ≤ 140737488355328) :
    Calls Try.prog 8 #[.agg #[v], vk, vm] w fun e w' => e = .returned (.bool true) ∧ Gr w w' := by
  obtain ⟨A, c, hva, _⟩ := id hv
  obtain ⟨Ak, ck, hvk, _⟩ := id hk
  obtain ⟨Am, cm, hvm, _⟩ := id hm
  have HV := Lib.hid hv
  have HK := Lib.hid hk
  have HM := Lib.hid hm
  subst hva hvk hvm
  have HFIT := Lib.hid hf
  clear hv hk hf hm
  obtain ⟨n, hn⟩ : ∃ n, n = L.length := ⟨_, rfl⟩
  obtain ⟨m, hm⟩ : ∃ n, n = K.length := ⟨_, rfl⟩
  obtain ⟨o, ho⟩ : ∃ n, n = M.length := ⟨_, rfl⟩
  have HN := Lib.hid hn
  rw [← hn] at HV hlen
  rw [← hm] at HK
  rw [← ho] at HM
  rw [← hn, ← hm, ← ho]
  clear hn hm ho
  have HA := Lib.hid (fun w1 => awake_any w1)
  go_enter Try.func8, Try.ntmps8
  go_wp2_with fail
  refine (HA.out _).mono ?_
  rintro e w1 ⟨rfl, g1⟩
  have b1 : w1.cell? ⟨w.heap.size, 0, none⟩ = some (.slice A n c) := g1.cell (by simp)
  have G1 := Lib.hid ((gr_box w (.cells #[.slice A n c] 24)).trans g1)
  have HC1 := Lib.hid (crash_any _ _ L K w1 (HV.out.gr G1.out) (HK.out.gr G1.out) HFIT.out (by rw [← HN.out]; exact hlen))
  clear g1
  go_wp2_with fail
  refine HC1.out.mono ?_
  rintro e w2 ⟨v2, rfl, hf2, g2⟩
  have HG2 := Lib.hid (G1.out.trans g2)
  have hcl : (crash L K).length = n := by rw [crash_len, HN.out]
  obtain ⟨A2, c2, hv2, -, -⟩ := hf2.form
  rw [hcl] at hv2
  subst hv2
  obtain ⟨W3, hW3, G3, x3⟩ : ∃ W3, W3 = w2.alloc (.cells #[.slice A2 n c2] 24) ∧ Gr w2 W3 ∧ W3.cell? ⟨w2.heap.size, 0, none⟩ = some (.slice A2 n c2) := ⟨_, rfl, gr_box w2 _, by simp⟩
  have HF3 := Lib.hid (hf2.gr G3)
  have HG3 := Lib.hid (HG2.out.trans G3)
  have HLN : Hid ((crash L K).length * 48 ≤ 140737488355328) := Lib.hid (by rw [hcl]; exact hlen)
  have HC2 : Hid (∀ w', Gr W3 w' → Calls Try.prog 17 #[.agg #[.slice A2 n c2], .slice Am o cm] w' fun e w'' => RetDisk (crash L K) w' e w'') := Lib.hid (fun w' q => by
    have := crash_any _ _ (crash L K) M w' (HF3.out.gr q).fv (HM.out.gr (HG3.out.trans q)) (crash_fit HFIT.out) HLN.out
    rw [crash_calm] at this
    exact this)
  go_upto_region 4 with (fail)
  rw [← hW3]
  obtain ⟨h7, hh7⟩ : ∃ h, h = w2.heap.size := ⟨_, rfl⟩
  rw [← hh7] at x3 ⊢
  have HES : Hid (W3.cell? ⟨h7, 0, none⟩ = some (.slice A2 n c2) ∧ Gr W3 W3) := Lib.hid ⟨x3, Gr.refl _⟩
  clear hW3 hf2 g2 b1 x3 hh7 hcl
  go_region_held3 (fun w' => w'.cell? ⟨h7, 0, none⟩ = some (.slice A2 n c2) ∧ Gr W3 w')
    (first
      | exact ⟨(Gr.refl W3).drew.cell HES.out.1, (Gr.refl _).drew⟩
      | exact ⟨hb4.cell (‹World.cell? _ _ = _ ∧ Gr W3 _›).1, (‹World.cell? _ _ = _ ∧ Gr W3 _›).2.trans hb4⟩
      | exact ⟨hb5.cell (‹World.cell? _ _ = _ ∧ Gr W3 _›).1, (‹World.cell? _ _ = _ ∧ Gr W3 _›).2.trans hb5⟩)
    (first
      | (go_at_call 17; (with_reducible refine (HC2.out _ ?_).mono ?_); exact (Gr.refl _).drew; rintro e w4 ⟨v4, rfl, hf4, hb4⟩)
      | (go_at_call 15; (with_reducible refine (same_yes _ _ _ _ hf4.fv ((HF3.out.gr (Gr.trans (Gr.refl _).drew hb4)).fv)).mono ?_); rintro e w5 ⟨rfl, hb5⟩))
  have HGF := Lib.hid (HG3.out.trans (Gr.trans (Gr.trans (Gr.refl W3).drew hb4) hb5))
  clear hb4 hb5 hf4
  go_wp2_with fail
  go_ret
  exact ⟨rfl, HGF.out⟩
end Go.Proofs.Ytonlplfjiaejhaa
