/- The law TableBuilds. -/
import Derived.Test.YtnihnkcmmnlaaaaDoorTabK
import Derived.Test.YtnihnkcmmnlaaaaDoorTabC
namespace Go.Proofs.YtnihnkcmmnlaaaaDoor
open Go.RowKit

theorem slice_p_to (n c k : Nat) (hk : k ≤ c) (A : Option Addr) : ∀ W : World, (Instr.slice 22 (.slice A n c) none (some (.int .i64 (k : Int))) none).run Tryd.prog W = .ok (.slice A k c) W := by
  intro W
  rw [run_slice_h W _ A n c elemPair.1 .i64 (k : Int) (by omega) (by omega), elemPair.2, sizePair]
  show Result.ok (sliced A 0 (k : Int).toNat c 2) W = _
  unfold sliced
  rw [Int.toNat_natCast]
  cases A with
  | none => simp
  | some a => simp [Addr.add]
theorem pv_take {w : World} {A : Option Addr} {n c k : Nat} {L : List PR} (hn : n = L.length) (h : PV w (.slice A n c) L) (hk : k ≤ n) : PV w (.slice A k c) (L.take k) := by
  have h1 := h.sl
  rw [← hn] at h1
  have h2 := h1.take hk
  refine PV.of_sl (n := k) ?_
  unfold pcells at h2 ⊢
  rw [rows_take pcell 2 pcell_len] at h2
  exact h2
def markP : PR := ⟨⟨#[109, 97, 114, 107]⟩, ⟨#[]⟩⟩

set_option maxRecDepth 100000 in
set_option maxHeartbeats 2000000 in
theorem builds6_law (v : Value) (L : List PR) (w : World) (hv : PV w v L) (hlen : (L.length + 1) * 32 ≤ 140737488355328) (hmax : ∀ p ∈ L, p.key.size ≤ 281474976710656 ∧ p.val.size ≤ 281474976710656) (hH : Halves w) :
    Calls Tryd.prog 3 #[v] w fun e w' => e = .returned (.bool true) ∧ Gr w w' := by
  have HV := Lib.hid hv
  obtain ⟨A, c, rfl⟩ := pv_form hv
  have H0 := Lib.hid (awake6_any w hH)
  have HBL := Lib.hid (fun (v1 : Value) (w1 : World) (hv : PV w1 v1 L) (g : Gr w w1) => build_any v1 L w1 hv hmax (hH.gr g))
  have HRB := Lib.hid (fun (w1 : World) (g : Gr w w1) => rbuild_any (.slice A L.length c) L w1 (hv.gr g) hmax)
  have HSM := Lib.hid (fun (v1 : Value) (w1 : World) (hv1 : PV w1 v1 L) (g : Gr w w1) => by
    have := psame_any v1 (.slice A L.length c) L L w1 hv1 (hv.gr g)
    rw [psameB_yes rfl] at this
    exact this)
  obtain ⟨n, hn⟩ : ∃ n, n = L.length := ⟨_, rfl⟩
  rw [← hn] at HV HSM HRB hlen ⊢
  have HN := Lib.hid hn
  obtain ⟨T, hT⟩ : ∃ T, T = (buildR L).1 := ⟨_, rfl⟩
  obtain ⟨er, her⟩ : ∃ T, T = (buildR L).2 := ⟨_, rfl⟩
  rw [← hT, ← her] at HBL HRB
  clear hv hmax hH hn hT her
  have hle2 : n * 32 ≤ 140737488355328 := by omega
  have hn63 : n ≤ 140737488355328 := by omega
  go_enter Tryd.func3, Tryd.ntmps3
  go_wp2_with fail
  refine H0.out.mono ?_
  rintro e w1 ⟨rfl, g1⟩
  have HV1 := Lib.hid (HV.out.gr g1)
  have HG1 := Lib.hid g1
  clear g1
  go_wp2_with (at_builtin; refine wpList_copy_pv rfl (.tmp 10) (.tmp 11) rfl rfl (.slice A n c) L n HN.out rfl HV1.out hle2 ?_)
  intro A2 c2 w2 hp2 g2
  have HP2 := Lib.hid hp2
  have HG2 := Lib.hid g2
  clear hp2 g2
  go_wp2_with (at_builtin; refine wpList_push_pv (w0 := w1) rfl (.tmp 12) (.tmp 14) rfl (.slice A2 n c2) (.slice (some ⟨w2.heap.size, 0, none⟩) 1 1) L [markP] n 1 HN.out rfl rfl (HP2.out.gr (gr_box _ _)) rfl (pv_one _ _ _ _ rfl) hlen (HG2.out.alloc _) ?_)
  intro A3 c3 w3 hp3 g3
  have HP3 := Lib.hid hp3.pv
  have HG3 := Lib.hid (HG1.out.trans g3)
  obtain ⟨A3', c3', e3, l3, ⟨hc3, _⟩, hcell⟩ := hp3.pv
  injection e3 with e3a e3b e3c
  subst e3a e3c
  clear e3b
  rw [List.length_append, ← HN.out] at l3
  have hl3 : n + 1 ≤ c3 := l3
  have hc63 : c3 ≤ 9223372036854775807 := hc3
  have hsl := slice_p_to (n + 1) c3 n (by omega) A3
  have hsl2 := slice_p_to n c3 (n + 1) hl3 A3
  obtain ⟨b, off, rfl, q0, -⟩ := hcell n (by rw [List.length_append, ← HN.out]; exact Nat.lt_succ_self n)
  rw [show (L ++ [markP])[n]'(by rw [List.length_append, ← HN.out]; exact Nat.lt_succ_self n) = markP from by
    have e := HN.out
    subst e
    exact List.getElem_concat_length rfl _] at q0
  have HQ0 := Lib.hid q0
  have HPT : Hid (PV w3 (.slice (some ⟨b, off, none⟩) n c3) L) := Lib.hid (by
    have := pv_take (k := n) (by rw [List.length_append, ← HN.out]; rfl) HP3.out (by omega)
    rwa [List.take_left' HN.out.symm] at this)
  clear hp3 g3 hcell q0 l3 hc3
  have hm1 : (n : Int) + 1 = ((n + 1 : Nat) : Int) := by omega
  have HW := Lib.hid (show wrap64 ((n : Int) + 1) = (n : Int) + 1 from IntWalk.wrap64_in _ ⟨by omega, by omega⟩)
  have HSL2 := Lib.hid hsl2
  have heq : (T.toList == T.toList) = true := eqS_self T
  have heq2 : ((er : Int) == (er : Int)) = true := by simp
  have heq3 : (markP.key.toList == [109, 97, 114, 107]) = true := by rw [ByteArray.toList_eq]; rfl
  clear hsl2
  go_wp2_with fail
  refine (HBL.out _ _ HPT.out HG3.out).mono ?_
  rintro e w4 ⟨rfl, g4⟩
  have HG34 := Lib.hid g4
  have HG4 := Lib.hid (HG3.out.trans g4)
  clear g4 hsl
  go_wp2_with fail
  refine (HRB.out _ HG4.out).mono ?_
  rintro e w5 ⟨rfl, g5⟩
  have HG35 := Lib.hid (HG34.out.trans g5)
  have HG5 := Lib.hid (HG4.out.trans g5)
  clear g5
  go_wp2_with fail
  refine (HSM.out _ _ (HPT.out.gr HG35.out) HG5.out).mono ?_
  rintro e w6 ⟨rfl, g6⟩
  have HG6 := Lib.hid (HG5.out.trans g6)
  have c0 := (HG35.out.trans g6).cell HQ0.out
  have hsl2 := HSL2.out
  rw [← hm1] at hsl2
  have hw64 := HW.out
  have t4 : (0 : Int) ≤ (n : Int) + 1 := by omega
  have t5 : ((n : Int) + 1).toNat = n + 1 := by omega
  have t0 : (0 : Int) ≤ (n : Int) := by omega
  have t1 : (n : Int) < (n : Int) + 1 := by omega
  clear g6 hm1
  go_wp2_with fail
  go_ret
  exact ⟨rfl, HG6.out⟩
end Go.Proofs.YtnihnkcmmnlaaaaDoor
