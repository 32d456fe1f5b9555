/- Walks: what the laws of the log share: comparing records, comparing plans, the laws' waking. -/
import Derived.Test.YtmkcgnljankmdaaDoorWalI
import Derived.Test.YtmkcgnljankmdaaDoorDiskI
namespace Go.Proofs.YtmkcgnljankmdaaDoor
open Go.RowKit

def LSRel (n : Nat) (w : World) (i : Value) (wr : World) : Prop := ∃ k : Nat, k ≤ n ∧ i = .int .i64 (k : Int) ∧ Gr w wr
set_option maxRecDepth 100000 in
/-- Two lists that read alike. -/
theorem lsame_any (va vb : Value) (L : List ByteArray) (w : World) (ha : SV w va L) (hb : SV w vb L) :
    Calls Tryd.prog 12 #[va, vb] w fun e w' => e = .returned (.bool true) ∧ Gr w w' := by
  obtain ⟨A, ca, rfl, la1, ⟨la2, _⟩, la3⟩ := ha
  obtain ⟨B, cb, rfl, lb1, ⟨lb2, _⟩, lb3⟩ := hb
  unfold maxLen at la2 lb2
  obtain ⟨n, hn⟩ : ∃ n, n = L.length := ⟨_, rfl⟩
  rw [← hn] at la1 lb1 ⊢
  have HN := Lib.hid hn
  have ht : ((n : Int) != (n : Int)) = false := by simp
  have HA := Lib.hid la3
  have HB := Lib.hid lb3
  clear hn la3 lb3
  go_enter Tryd.func12, Tryd.ntmps12
  go_wp2_with fail
  go_loopw [5] (fun i wr => LSRel n w i wr) (fun i _ => n - (intOf i).toNat)
  case atStart => exact ⟨0, Nat.zero_le _, rfl, Gr.refl _⟩
  case round =>
    obtain ⟨k, hk, rfl, hgr⟩ := hrel
    by_cases hlt : k < n
    · obtain ⟨b, off, rfl, hca⟩ := HA.out k (by rw [← HN.out]; exact hlt)
      obtain ⟨b', off', rfl, hcb⟩ := HB.out k (by rw [← HN.out]; exact hlt)
      obtain ⟨x, hx⟩ : ∃ x, x = L[k]'(by rw [← HN.out]; exact hlt) := ⟨_, rfl⟩
      rw [← hx] at hca hcb
      have c0 := hgr.cell hca
      have c1 := hgr.cell hcb
      have ht2 : (x.toList == x.toList) = true := by simp
      have HG := Lib.hid hgr
      clear hx hca hcb hgr
      go_wp2_with fail
      go_quiet (fail)
      go_wp2
      go_roundw
      case rel => exact ⟨k + 1, by omega, by go_num, HG.out.drewN _⟩
      case measure => simp [intOf]; omega
    · go_wp2
      go_ret
      exact ⟨rfl, hgr⟩
theorem fieldsOp : ∃ f0 f1 f2 f3 : Field, Tryd.prog.fieldsOf 49 = #[f0, f1, f2, f3] ∧ (f0.name ≠ "_" ∧ f1.name ≠ "_" ∧ f2.name ≠ "_" ∧ f3.name ≠ "_") ∧ (f0.type = 3 ∧ f1.type = 9 ∧ f2.type = 9 ∧ f3.type = 3) ∧ f0.offset = 0 ∧ f1.offset = 1 ∧ f2.offset = 2 ∧ f3.offset = 3 := by
  refine ⟨(Tryd.prog.fieldsOf 49)[0]'(by decide +kernel), (Tryd.prog.fieldsOf 49)[1]'(by decide +kernel), (Tryd.prog.fieldsOf 49)[2]'(by decide +kernel), (Tryd.prog.fieldsOf 49)[3]'(by decide +kernel), by kernel_rfl, ⟨by decide +kernel, by decide +kernel, by decide +kernel, by decide +kernel⟩, ⟨by kernel_rfl, by kernel_rfl, by kernel_rfl, by kernel_rfl⟩, by kernel_rfl, by kernel_rfl, by kernel_rfl, by kernel_rfl⟩
def ovs (o : O) : Array Value := #[.int .i64 o.kind, .string o.name, .string o.bytes, .int .i64 o.at_]
theorem part_o (o : O) (w : World) : (part 3 (ovs o) 0).run Tryd.prog w = .ok (.int .i64 o.kind) w ∧ (part 9 (ovs o) 1).run Tryd.prog w = .ok (.string o.name) w ∧ (part 9 (ovs o) 2).run Tryd.prog w = .ok (.string o.bytes) w ∧ (part 3 (ovs o) 3).run Tryd.prog w = .ok (.int .i64 o.at_) w := by
  refine ⟨?_, ?_, ?_, ?_⟩ <;> (show _ = _; kernel_rfl)
theorem equal_o (o : O) (w : World) : (Op.equalIn 10000 49 (.agg (ovs o)) (.agg (ovs o))).run Tryd.prog w = .ok true w := by
  obtain ⟨f0, f1, f2, f3, hf, ⟨n0, n1, n2, n3⟩, ⟨t0, t1, t2, t3⟩, o0, o1, o2, o3⟩ := fieldsOp
  obtain ⟨p0, p1, p2, p3⟩ := part_o o w
  rw [run_equalIn_struct w 9999 _ _ _ (by kernel_rfl) (by kernel_rfl), hf]
  simp only [Op.eqFields, n0, n1, n2, n3, t0, t1, t2, t3, o0, o1, o2, o3, if_true, ne_eq, not_false_eq_true, Sem.run_bind, p0, p1, p2, p3, Result.andThen_ok, run_equalIn_string w 9998 9 _ _ Tryd.underlying9, run_equalIn_int w 9998 3 _ _ _ _ Tryd.underlying3, Sem.run_ite, Sem.run_pure]
  simp
set_option maxRecDepth 100000 in
set_option maxHeartbeats 1000000 in
/-- Two plans that read alike. -/
theorem plans_any (va vb : Value) (L : List O) (w : World) (ha : OV w va L) (hb : OV w vb L) :
    Calls Tryd.prog 13 #[va, vb] w fun e w' => e = .returned (.bool true) ∧ Gr w w' := by
  obtain ⟨A, ca, rfl, la1, ⟨la2, _⟩, la3⟩ := ha
  obtain ⟨B, cb, rfl, lb1, ⟨lb2, _⟩, lb3⟩ := hb
  unfold maxLen at la2 lb2
  obtain ⟨n, hn⟩ : ∃ n, n = L.length := ⟨_, rfl⟩
  rw [← hn] at la1 lb1 ⊢
  have HN := Lib.hid hn
  have ht : ((n : Int) != (n : Int)) = false := by simp
  have HA := Lib.hid la3
  have HB := Lib.hid lb3
  clear hn la3 lb3
  go_enter Tryd.func13, Tryd.ntmps13
  go_wp2_with fail
  go_loopw [5] (fun i wr => LSRel n w i wr) (fun i _ => n - (intOf i).toNat)
  case atStart => exact ⟨0, Nat.zero_le _, rfl, Gr.refl _⟩
  case round =>
    obtain ⟨k, hk, rfl, hgr⟩ := hrel
    by_cases hlt : k < n
    · obtain ⟨b, off, rfl, ha0, ha1, ha2, ha3⟩ := HA.out k (by rw [← HN.out]; exact hlt)
      obtain ⟨b', off', rfl, hb0, hb1, hb2, hb3⟩ := HB.out k (by rw [← HN.out]; exact hlt)
      obtain ⟨x, hx⟩ : ∃ x, x = L[k]'(by rw [← HN.out]; exact hlt) := ⟨_, rfl⟩
      rw [← hx] at ha0 ha1 ha2 ha3 hb0 hb1 hb2 hb3
      have a0 := hgr.cell ha0
      have a1 := hgr.cell ha1
      have a2 := hgr.cell ha2
      have a3 := hgr.cell ha3
      have c0 := hgr.cell hb0
      have c1 := hgr.cell hb1
      have c2 := hgr.cell hb2
      have c3 := hgr.cell hb3
      have he := fun w => equal_o x w
      unfold ovs at he
      have HG := Lib.hid hgr
      clear hx ha0 ha1 ha2 ha3 hb0 hb1 hb2 hb3 hgr
      go_wp2_with fail
      go_quiet (fail)
      go_wp2
      go_roundw
      case rel => exact ⟨k + 1, by omega, by go_num, HG.out.drewN _⟩
      case measure => simp [intOf]; omega
    · go_wp2
      go_ret
      exact ⟨rfl, hgr⟩
def wB : ByteArray := ⟨#[119]⟩
def aB : ByteArray := ⟨#[97]⟩
def nilB : List F := []
theorem prefix_w : prefixB wB = true := by decide
theorem awake_plan : appendPlan [] wB aB = ([writeO wB 0 (frameB aB)], 0) := rfl
theorem wawake_any (w : World) (hH : Halves w) : Calls Tryd.prog 8 #[] w fun e w' => e = .returned (.bool true) ∧ Gr w w' := by
  have h1 := append_yes (.slice none 0 0) [] wB aB w (FV.nil w) prefix_w (by decide) (fun f hf => by cases hf) (by decide) hH
  rw [awake_plan] at h1
  have H1 := Lib.hid h1
  have hsz := frameB_size aB
  obtain ⟨fr, hfr⟩ : ∃ x, x = frameB aB := ⟨_, rfl⟩
  rw [← hfr] at H1 hsz
  have hs9 : (fr.size : Int) = 9 := by rw [hsz]; rfl
  have HN := Lib.hid (show nameW wB 0 = ⟨#[119, 46, 48, 48, 48, 48, 48, 48]⟩ by decide)
  clear h1 hfr hsz
  go_enter Tryd.func8, Tryd.ntmps8
  go_wp2_with fail
  refine H1.out.mono ?_
  rintro e w1 ⟨v1, rfl, hown, g1⟩
  obtain ⟨A, c, hv, hc1, hc2⟩ := hown.form
  subst hv
  obtain ⟨A', c', hv', h1, h2, h3⟩ := hown.ov
  obtain ⟨b, off, hA, d0, d1, d2, d3⟩ := h3 0 (Nat.zero_lt_succ _)
  injection hv' with e1 e2 e3
  subst e1
  subst hA
  have c0 : w1.cell? ⟨b, off, none⟩ = some (.int .i64 1) := by simpa [writeO] using d0
  have c1 : w1.cell? ⟨b, off + 1, none⟩ = some (.string (nameW wB 0)) := by simpa [writeO] using d1
  have c2 : w1.cell? ⟨b, off + 2, none⟩ = some (.string fr) := by simpa [writeO] using d2
  rw [HN.out] at c1
  have hc1' : 1 ≤ c := hc1
  have HG := Lib.hid g1
  clear hown h3 d0 d1 d2 d3 g1 h1 h2 e2 e3 hc1
  go_wp2_with fail
  go_ret
  exact ⟨rfl, HG.out⟩
end Go.Proofs.YtmkcgnljankmdaaDoor
/-! The law WalOpens: the program and the document open a log alike. -/
namespace Go.Proofs.YtmkcgnljankmdaaDoor
open Go.RowKit

/-- What opening answers, whatever the prefix. -/
def openR (L : List F) (p : ByteArray) : List (List UInt8) × List O × Nat := if prefixB p = true then ((openW L p).1, (openW L p).2, 0) else ([], [], 1)
theorem fv_form {w : World} {v : Value} {L : List F} (h : FV w v L) : ∃ A n c, v = .slice A n c := by
  obtain ⟨A, c, hv, _⟩ := h
  exact ⟨A, _, c, hv⟩
theorem open_any (v : Value) (L : List F) (p : ByteArray) (w : World) (hv : FV w v L) (hps : p.size ≤ 9223372036854775807) (hf : Fit L) (hsm : ∀ f ∈ segL L p, f.size ≤ 1048576) (hlen : L.length * 48 ≤ 140737488355328) (hH : Halves w) :
    Calls Tryd.prog 10 #[.agg #[v], .string p] w fun e w' => RetOpen (openR L p).1 (openR L p).2.1 (openR L p).2.2 w e w' := by
  rcases hp : prefixB p with _ | _
  · have e : openR L p = ([], [], 1) := by unfold openR; rw [hp]; rfl
    rw [e]
    exact open_no v p w hp hps (fv_form hv)
  · have e : openR L p = ((openW L p).1, (openW L p).2, 0) := by unfold openR; rw [hp]; rfl
    rw [e]
    exact open_yes v L p w hv hp hf hsm hlen hH
theorem ropen_any (v : Value) (L : List F) (p : ByteArray) (w : World) (hv : FV w v L) (hps : p.size ≤ 9223372036854775807) (hf : Fit L) (hsm : ∀ f ∈ segL L p, f.size ≤ 1048576) :
    Calls Tryd.prog 11 #[.agg #[v], .string p] w fun e w' => RetOpen (openR L p).1 (openR L p).2.1 (openR L p).2.2 w e w' := by
  rcases hp : prefixB p with _ | _
  · have e : openR L p = ([], [], 1) := by unfold openR; rw [hp]; rfl
    rw [e]
    exact ropen_no v p w hp hps (fv_form hv)
  · have e : openR L p = ((openW L p).1, (openW L p).2, 0) := by unfold openR; rw [hp]; rfl
    rw [e]
    exact ropen_yes v L p w hv hp hf hsm
theorem so_form {w : World} {B : Nat} {v : Value} {L : List ByteArray} (h : SO w B v L) : ∃ A c, v = .slice A L.length c ∧ L.length ≤ c ∧ c ≤ 9223372036854775807 := own_form h

set_option maxRecDepth 100000 in
set_option maxHeartbeats 4000000 in
theorem wopens_walk (v : Value) (L : List F) (p : ByteArray) (w : World) (hv : FV w v L) (hps : p.size ≤ 9223372036854775807) (hf : Fit L) (hsm : ∀ f ∈ segL L p, f.size ≤ 1048576) (hlen : L.length * 48 ≤ 140737488355328) (hH : Halves w) :
    Calls Tryd.prog 3 #[.agg #[v], .string p] w fun e w' => e = .returned (.bool true) ∧ Gr w w' := by
  have HA := Lib.hid (fun w1 (g : Gr w w1) => wawake_any w1 (hH.gr g))
  have HC := Lib.hid (fun w1 (g : Gr w w1) => rcopy_any v L w1 (hv.gr g) hlen)
  have HO := Lib.hid (fun u w1 (hu : FV w1 u L) (g : Gr w w1) => open_any u L p w1 hu hps hf hsm hlen (hH.gr g))
  have HR := Lib.hid (fun w1 (g : Gr w w1) => ropen_any v L p w1 (hv.gr g) hps hf hsm)
  have HV := Lib.hid hv
  obtain ⟨R, hR⟩ : ∃ R, R = openR L p := ⟨_, rfl⟩
  rw [← hR] at HO HR
  obtain ⟨R, P, k⟩ := R
  dsimp only at HO HR
  obtain ⟨A, n, c, rfl⟩ := fv_form hv
  have HG := Lib.hid (gr_box w (.cells #[.slice A n c] 24))
  have hsame := sameB_yes (rfl : L = L)
  clear hv hR hf hsm hH hlen
  go_enter Tryd.func3, Tryd.ntmps3
  go_wp2_with fail
  refine (HA.out _ HG.out).mono ?_
  rintro e w1 ⟨rfl, g1⟩
  have HG1 := Lib.hid (HG.out.trans g1)
  have hb1 : w1.cell? ⟨w.heap.size, 0, none⟩ = some (.slice A n c) := g1.cell (by simp)
  have HB1 := Lib.hid hb1
  clear g1
  go_wp2_with fail
  refine (HC.out _ HG1.out).mono ?_
  rintro e w2 ⟨v2, rfl, hown, g2⟩
  obtain ⟨A2, c2, hv2, hc1, hc2⟩ := hown.form
  obtain ⟨m, hm⟩ : ∃ m, m = L.length := ⟨_, rfl⟩
  rw [← hm] at hv2
  subst hv2
  have HO2 := Lib.hid hown.fv
  have HG2 := Lib.hid (HG1.out.trans g2)
  have hb2 : w2.cell? ⟨w.heap.size, 0, none⟩ = some (.slice A n c) := g2.cell HB1.out
  have HGB := Lib.hid (gr_box w2 (.cells #[.slice A2 m c2] 24))
  clear g2 hown hb1 hc1 hm
  have HB2 := Lib.hid hb2
  go_wp2_with fail
  refine (HO.out _ _ (HO2.out.gr HGB.out) (HG2.out.trans HGB.out)).mono ?_
  rintro e w3 ⟨v3, v4, rfl, hs3, ho4, g3⟩
  have hb3 : w3.cell? ⟨w.heap.size, 0, none⟩ = some (.slice A n c) := g3.cell (HGB.out.cell HB2.out)
  have hx3 : w3.cell? ⟨w2.heap.size, 0, none⟩ = some (.slice A2 m c2) := g3.cell (by simp)
  have HB3 := Lib.hid hb3
  have HX3 := Lib.hid hx3
  have HG3 := Lib.hid ((HG2.out.trans HGB.out).trans g3)
  have HG23 := Lib.hid (HGB.out.trans g3)
  have HS3 := Lib.hid hs3.sv
  have HP4 := Lib.hid ho4.ov
  clear hb2 g3 hs3 ho4 hx3
  go_wp2_with fail
  refine (HR.out _ HG3.out).mono ?_
  rintro e w4 ⟨v5, v6, rfl, hs5, ho6, g4⟩
  have HB4 := Lib.hid (g4.cell HB3.out)
  have HX4 := Lib.hid (g4.cell HX3.out)
  have HG4 := Lib.hid (HG3.out.trans g4)
  have HG24 := Lib.hid (HG23.out.trans g4)
  have HS5 := Lib.hid hs5.sv
  have HP6 := Lib.hid ho6.ov
  have HS3' := Lib.hid (HS3.out.gr g4)
  have HP4' := Lib.hid (HP4.out.gr g4)
  clear hb3 g4 hs5 ho6
  go_wp2_with fail
  refine (lsame_any _ _ _ _ HS3'.out HS5.out).mono ?_
  rintro e w5 ⟨rfl, g5⟩
  have HP45 := Lib.hid (HP4'.out.gr g5)
  have HP65 := Lib.hid (HP6.out.gr g5)
  have HG5 := Lib.hid (HG4.out.trans g5)
  have HG25 := Lib.hid (HG24.out.trans g5)
  have HB5 := Lib.hid (g5.cell HB4.out)
  have HX5 := Lib.hid (g5.cell HX4.out)
  clear g5
  go_wp2_with fail
  refine (plans_any _ _ _ _ HP45.out HP65.out).mono ?_
  rintro e w6 ⟨rfl, g6⟩
  have HG6 := Lib.hid (HG5.out.trans g6)
  have hb6 := g6.cell HB5.out
  have hx6 := g6.cell HX5.out
  have ht : ((k : Int) == (k : Int)) = true := by simp
  have H7 := Lib.hid (same_any (.slice A2 m c2) (.slice A n c) L L w6 (HO2.out.gr (HG25.out.trans g6)) (HV.out.gr HG6.out))
  rw [hsame] at H7
  clear g6 hsame
  go_wp2_with fail
  refine H7.out.mono ?_
  rintro e w7 ⟨rfl, g7⟩
  have HG7 := Lib.hid (HG6.out.trans g7)
  clear g7
  go_wp2_with fail
  go_ret
  exact ⟨rfl, HG7.out⟩
end Go.Proofs.YtmkcgnljankmdaaDoor
