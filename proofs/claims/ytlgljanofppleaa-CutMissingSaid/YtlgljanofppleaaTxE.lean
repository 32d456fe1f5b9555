/- Walks: slices.EqualFunc over two lists of transactions, SameList. -/
import Derived.Test.YtlgljanofppleaaTxC
namespace Go.Proofs.Ytlgljanofppleaa
open Go.RowKit

set_option maxRecDepth 100000 in
set_option maxHeartbeats 2000000 in
theorem eqFunc_any (va vb : Value) (La Lb : List TX) (w : World) (ha : XV w va La) (hb : XV w vb Lb) :
    Calls Try.prog 52 #[va, vb, .func (.func 46) #[] #[]] w fun e w' => e = .returned (.bool (sameL La Lb)) ∧ Gr w w' := by
  obtain ⟨A, ca, rfl, la1, ⟨la2, _⟩, la3⟩ := ha
  obtain ⟨B, cb, rfl, lb1, ⟨lb2, _⟩, lb3⟩ := hb
  unfold maxLen at la2 lb2
  obtain ⟨n, hn⟩ : ∃ n, n = La.length := ⟨_, rfl⟩
  by_cases hl : La.length = Lb.length
  · have HL := Lib.hid hl
    rw [← hl, ← hn] at lb1
    rw [← hl, ← hn]
    rw [← hn] at la1
    have HN := Lib.hid hn
    have ht : ((n : Int) != (n : Int)) = false := by simp
    have HA := Lib.hid la3
    have HB := Lib.hid lb3
    clear hl hn la3 lb3
    go_enter Try.func52, Try.ntmps52
    go_wp2_with fail
    go_loopw [17] (fun i wr => XSameRel La Lb w i wr) (fun i _ => n - (intOf i).toNat)
    case atStart => exact ⟨0, Nat.zero_le _, rfl, Gr.refl _, fun j _ _ h => absurd h (Nat.not_lt_zero _)⟩
    case round =>
      obtain ⟨k, hk, rfl, hgr, hkk⟩ := hrel
      rw [← HN.out] at hk
      have HK := Lib.hid hkk
      clear hkk
      by_cases hlt : k < n
      · have hkA : k < La.length := by rw [← HN.out]; exact hlt
        have hkB : k < Lb.length := by rw [← HL.out, ← HN.out]; exact hlt
        obtain ⟨b, off, rfl, ha⟩ := HA.out k hkA
        obtain ⟨b', off', rfl, hb⟩ := HB.out k hkB
        obtain ⟨f, hf⟩ : ∃ f, f = La[k] := ⟨_, rfl⟩
        obtain ⟨g, hg⟩ : ∃ g, g = Lb[k] := ⟨_, rfl⟩
        rw [← hf] at ha
        rw [← hg] at hb
        obtain ⟨vf, af, a0, a1, a2, a3, a4, a5, a6, a7, a8, a9, a10, a11⟩ := ha.gr hgr
        obtain ⟨vg, ag, hcg⟩ := hb.gr hgr
        obtain ⟨Af, cf, rfl⟩ := tov_form af
        obtain ⟨Ag, cg, rfl⟩ := tov_form ag
        have HG := Lib.hid hgr
        have hs := fun (w1 : World) (g1 : Gr wr w1) => same8_any f g _ _ w1 (af.gr g1) (ag.gr g1)
        have HNT := Lib.hid (fun (h : sameT f g = false) => sameL_not HL.out hkA hkB (by rw [← hf, ← hg]; exact h))
        have HST := Lib.hid (fun (h : sameT f g = true) (j : Nat) (h1 : j < La.length) (h2 : j < Lb.length) (hj : j < k + 1) => show sameT La[j] Lb[j] = true by
          by_cases e : j = k
          · subst e; rw [← hf, ← hg]; exact h
          · exact HK.out j h1 h2 (by omega))
        obtain ⟨r, hr⟩ : ∃ r, r = sameT f g := ⟨_, rfl⟩
        rw [← hr] at hs HNT HST
        have HS := Lib.hid hs
        obtain ⟨W1, hW1, hg1, hx1⟩ := xbox wr f (.slice Af f.ops.length cf)
        obtain ⟨W2, hW2, hg2, hx2⟩ := xbox W1 g (.slice Ag g.ops.length cg)
        have HX1 := Lib.hid (hx1.gr hg2)
        have HX2 := Lib.hid hx2
        have HG2 := Lib.hid (hg1.trans hg2)
        obtain ⟨c0, c1, c2, c3, c4, c5, c6, c7, c8, c9, c10, c11⟩ := hcg.gr hg1
        clear ha hb hgr hs hr hf hg hkA hkB af ag hcg hx1 hx2 hg1 hg2
        go_upto_region 6 with (fail)
        rw [← hW1]
        clear hW1 a0 a1 a2 a3 a4 a5 a6 a7 a8 a9 a10 a11
        go_upto_region 7 with (fail)
        rw [← hW2]
        clear hW2 c0 c1 c2 c3 c4 c5 c6 c7 c8 c9 c10 c11
        obtain ⟨a0, a1, a2, a3, a4, a5, a6, a7, a8, a9, a10, a11⟩ := HX1.out
        obtain ⟨c0, c1, c2, c3, c4, c5, c6, c7, c8, c9, c10, c11⟩ := HX2.out
        go_wp2_with fail
        refine (HS.out _ HG2.out).mono ?_
        rintro e w3 ⟨rfl, g3⟩
        have HG3 := Lib.hid ((HG.out.trans HG2.out).trans g3)
        clear g3 a0 a1 a2 a3 a4 a5 a6 a7 a8 a9 a10 a11 c0 c1 c2 c3 c4 c5 c6 c7 c8 c9 c10 c11
        rcases r with _ | _
        · have HF := Lib.hid (HNT.out rfl)
          clear HNT HST
          go_wp2_with fail
          go_ret
          exact ⟨by rw [HF.out]; rfl, HG3.out⟩
        · have HF := Lib.hid (HST.out rfl)
          clear HNT HST
          go_wp2_with fail
          go_roundw
          case rel => exact ⟨k + 1, by rw [← HN.out]; omega, by go_num, HG3.out, HF.out⟩
          case measure => simp [intOf]; omega
      · have hall : sameL La Lb = true := (sameL_at HL.out).2 fun j h1 h2 => HK.out j h1 h2 (by rw [← HN.out] at h1; omega)
        have HF := Lib.hid hall
        clear hall
        go_wp2_with fail
        go_ret
        exact ⟨by rw [HF.out]; rfl, hgr⟩
  · have HF := Lib.hid (sameL_len (La := La) (Lb := Lb) hl)
    have ht : ((La.length : Int) != (Lb.length : Int)) = true := by rw [bne_iff_ne]; omega
    obtain ⟨m, hm⟩ : ∃ m, m = Lb.length := ⟨_, rfl⟩
    rw [← hm] at ht lb1 ⊢
    rw [← hn] at ht la1 ⊢
    clear hl hn hm la3 lb3
    go_enter Try.func52, Try.ntmps52
    go_wp2_with fail
    go_ret
    exact ⟨by rw [HF.out]; rfl, Gr.refl _⟩
set_option maxRecDepth 100000 in
theorem sameL_any (va vb : Value) (La Lb : List TX) (w : World) (ha : XV w va La) (hb : XV w vb Lb) :
    Calls Try.prog 32 #[va, vb] w fun e w' => e = .returned (.bool (sameL La Lb)) ∧ Gr w w' := by
  have H := Lib.hid (eqFunc_any va vb La Lb w ha hb)
  clear ha hb
  go_enter Try.func32, Try.ntmps32
  go_wp2_with fail
  refine H.out.mono ?_
  rintro e w1 ⟨rfl, g1⟩
  go_wp2_with fail
  go_ret
  exact ⟨rfl, g1⟩
end Go.Proofs.Ytlgljanofppleaa
