/- The law WalOpens: the program and the document open a log alike. -/
import Derived.Test.YtmkcgnljankmdaaDoorWalJ
import Derived.Test.YtmkcgnljankmdaaDoorDiskI
namespace Go.Proofs.YtmkcgnljankmdaaDoor
open Go.RowKit

/-- What opening answers, whatever the prefix. -/
def openR (L : List F) (p : ByteArray) : List (List UInt8) × List O × Nat := if prefixB p = true then ((openW L p).1, (openW L p).2, 0) else ([], [], 1)
theorem fv_form {w : World} {v : Value} {L : List F} (h : FV w v L) : ∃ A n c, v = .slice A n c := by
  obtain ⟨A, c, hv, _⟩ := h
  exact ⟨A, _, c, hv⟩
theorem open_any (v : Value) (L : List F) (p : ByteArray) (w : World) (hv : FV w v L) (hps : p.size ≤ 9223372036854775807) (hf : Fit L) (hsm : ∀ f ∈ segL L p, f.size ≤ 1048576) (hlen : L.length * 48 ≤ 140737488355328) (hH : Halves w) :
    Calls Tryd.prog 10 #[.agg #[v], .string p] w fun e w' => RetOpen (openR L p).1 (openR L p).2.1 (openR L p).2.2 w e w' := by
  rcases hp : prefixB p with _ | _
  · have e : openR L p = ([], [], 1) := by unfold openR; rw [hp]; rfl
    rw [e]
    exact open_no v p w hp hps (fv_form hv)
  · have e : openR L p = ((openW L p).1, (openW L p).2, 0) := by unfold openR; rw [hp]; rfl
    rw [e]
    exact open_yes v L p w hv hp hf hsm hlen hH
theorem ropen_any (v : Value) (L : List F) (p : ByteArray) (w : World) (hv : FV w v L) (hps : p.size ≤ 9223372036854775807) (hf : Fit L) (hsm : ∀ f ∈ segL L p, f.size ≤ 1048576) :
    Calls Tryd.prog 11 #[.agg #[v], .string p] w fun e w' => RetOpen (openR L p).1 (openR L p).2.1 (openR L p).2.2 w e w' := by
  rcases hp : prefixB p with _ | _
  · have e : openR L p = ([], [], 1) := by unfold openR; rw [hp]; rfl
    rw [e]
    exact ropen_no v p w hp hps (fv_form hv)
  · have e : openR L p = ((openW L p).1, (openW L p).2, 0) := by unfold openR; rw [hp]; rfl
    rw [e]
    exact ropen_yes v L p w hv hp hf hsm
theorem so_form {w : World} {B : Nat} {v : Value} {L : List ByteArray} (h : SO w B v L) : ∃ A c, v = .slice A L.length c ∧ L.length ≤ c ∧ c ≤ 9223372036854775807 := own_form h

set_option maxRecDepth 100000 in
set_option maxHeartbeats 4000000 in
theorem wopens_walk (v : Value) (L : List F) (p : ByteArray) (w : World) (hv : FV w v L) (hps : p.size ≤ 9223372036854775807) (hf : Fit L) (hsm : ∀ f ∈ segL L p, f.size ≤ 1048576) (hlen : L.length * 48 ≤ 140737488355328) (hH : Halves w) :
    Calls Tryd.prog 3 #[.agg #[v], .string p] w fun e w' => e = .returned (.bool true) ∧ Gr w w' := by
  have HA := Lib.hid (fun w1 (g : Gr w w1) => wawake_any w1 (hH.gr g))
  have HC := Lib.hid (fun w1 (g : Gr w w1) => rcopy_any v L w1 (hv.gr g) hlen)
  have HO := Lib.hid (fun u w1 (hu : FV w1 u L) (g : Gr w w1) => open_any u L p w1 hu hps hf hsm hlen (hH.gr g))
  have HR := Lib.hid (fun w1 (g : Gr w w1) => ropen_any v L p w1 (hv.gr g) hps hf hsm)
  have HV := Lib.hid hv
  obtain ⟨R, hR⟩ : ∃ R, R = openR L p := ⟨_, rfl⟩
  rw [← hR] at HO HR
  obtain ⟨R, P, k⟩ := R
  dsimp only at HO HR
  obtain ⟨A, n, c, rfl⟩ := fv_form hv
  have HG := Lib.hid (gr_box w (.cells #[.slice A n c] 24))
  have hsame := sameB_yes (rfl : L = L)
  clear hv hR hf hsm hH hlen
  go_enter Tryd.func3, Tryd.ntmps3
  go_wp2_with fail
  refine (HA.out _ HG.out).mono ?_
  rintro e w1 ⟨rfl, g1⟩
  have HG1 := Lib.hid (HG.out.trans g1)
  have hb1 : w1.cell? ⟨w.heap.size, 0, none⟩ = some (.slice A n c) := g1.cell (by simp)
  have HB1 := Lib.hid hb1
  clear g1
  go_wp2_with fail
  refine (HC.out _ HG1.out).mono ?_
  rintro e w2 ⟨v2, rfl, hown, g2⟩
  obtain ⟨A2, c2, hv2, hc1, hc2⟩ := hown.form
  obtain ⟨m, hm⟩ : ∃ m, m = L.length := ⟨_, rfl⟩
  rw [← hm] at hv2
  subst hv2
  have HO2 := Lib.hid hown.fv
  have HG2 := Lib.hid (HG1.out.trans g2)
  have hb2 : w2.cell? ⟨w.heap.size, 0, none⟩ = some (.slice A n c) := g2.cell HB1.out
  have HGB := Lib.hid (gr_box w2 (.cells #[.slice A2 m c2] 24))
  clear g2 hown hb1 hc1 hm
  have HB2 := Lib.hid hb2
  go_wp2_with fail
  refine (HO.out _ _ (HO2.out.gr HGB.out) (HG2.out.trans HGB.out)).mono ?_
  rintro e w3 ⟨v3, v4, rfl, hs3, ho4, g3⟩
  have hb3 : w3.cell? ⟨w.heap.size, 0, none⟩ = some (.slice A n c) := g3.cell (HGB.out.cell HB2.out)
  have hx3 : w3.cell? ⟨w2.heap.size, 0, none⟩ = some (.slice A2 m c2) := g3.cell (by simp)
  have HB3 := Lib.hid hb3
  have HX3 := Lib.hid hx3
  have HG3 := Lib.hid ((HG2.out.trans HGB.out).trans g3)
  have HG23 := Lib.hid (HGB.out.trans g3)
  have HS3 := Lib.hid hs3.sv
  have HP4 := Lib.hid ho4.ov
  clear hb2 g3 hs3 ho4 hx3
  go_wp2_with fail
  refine (HR.out _ HG3.out).mono ?_
  rintro e w4 ⟨v5, v6, rfl, hs5, ho6, g4⟩
  have HB4 := Lib.hid (g4.cell HB3.out)
  have HX4 := Lib.hid (g4.cell HX3.out)
  have HG4 := Lib.hid (HG3.out.trans g4)
  have HG24 := Lib.hid (HG23.out.trans g4)
  have HS5 := Lib.hid hs5.sv
  have HP6 := Lib.hid ho6.ov
  have HS3' := Lib.hid (HS3.out.gr g4)
  have HP4' := Lib.hid (HP4.out.gr g4)
  clear hb3 g4 hs5 ho6
  go_wp2_with fail
  refine (lsame_any _ _ _ _ HS3'.out HS5.out).mono ?_
  rintro e w5 ⟨rfl, g5⟩
  have HP45 := Lib.hid (HP4'.out.gr g5)
  have HP65 := Lib.hid (HP6.out.gr g5)
  have HG5 := Lib.hid (HG4.out.trans g5)
  have HG25 := Lib.hid (HG24.out.trans g5)
  have HB5 := Lib.hid (g5.cell HB4.out)
  have HX5 := Lib.hid (g5.cell HX4.out)
  clear g5
  go_wp2_with fail
  refine (plans_any _ _ _ _ HP45.out HP65.out).mono ?_
  rintro e w6 ⟨rfl, g6⟩
  have HG6 := Lib.hid (HG5.out.trans g6)
  have hb6 := g6.cell HB5.out
  have hx6 := g6.cell HX5.out
  have ht : ((k : Int) == (k : Int)) = true := by simp
  have H7 := Lib.hid (same_any (.slice A2 m c2) (.slice A n c) L L w6 (HO2.out.gr (HG25.out.trans g6)) (HV.out.gr HG6.out))
  rw [hsame] at H7
  clear g6 hsame
  go_wp2_with fail
  refine H7.out.mono ?_
  rintro e w7 ⟨rfl, g7⟩
  have HG7 := Lib.hid (HG6.out.trans g7)
  clear g7
  go_wp2_with fail
  go_ret
  exact ⟨rfl, HG7.out⟩
end Go.Proofs.YtmkcgnljankmdaaDoor
