/- The law DiskOthers: files that no operation names stand as they stood. -/
import Derived.Test.YtonlplfjiaejhaaLawG
namespace Go.Proofs.Ytonlplfjiaejhaa
open Go.RowKit

/-- Does one of these operations name the file? -/
def named (ops : List O) (nm : ByteArray) : Bool := ops.any fun o => eqS o.name nm
theorem named_step {ops : List O} {nm : ByteArray} {j : Nat} (h : j < ops.length) : named (ops.take (j + 1)) nm = (named (ops.take j) nm || eqS ops[j].name nm) := by
  unfold named
  rw [List.take_succ_eq_append_getElem h, List.any_append]
  simp
theorem named_no {ops : List O} {nm : ByteArray} (h : named ops nm = false) : ∀ o ∈ ops, o.name ≠ nm := by
  intro o ho e
  unfold named at h
  rw [List.any_eq_false] at h
  exact h o ho (by rw [e]; exact eqS_self nm)

abbrev OS (W : World) (b1 b2 a p : Nat) (v1 v2 : Value) (nm : ByteArray) (w' : World) : Prop := w'.cell? ⟨b1, 0, none⟩ = some v1 ∧ w'.cell? ⟨b2, 0, none⟩ = some v2 ∧ w'.cell? ⟨a, p, none⟩ = some (.string nm) ∧ Gr W w'
theorem OS.gr {W : World} {b1 b2 a p : Nat} {v1 v2 : Value} {nm : ByteArray} {w1 w2 : World} (h : OS W b1 b2 a p v1 v2 nm w1) (q : Gr w1 w2) : OS W b1 b2 a p v1 v2 nm w2 := ⟨q.cell h.1, q.cell h.2.1, q.cell h.2.2.1, h.2.2.2.trans q⟩
set_option maxRecDepth 100000 in
set_option maxHeartbeats 4000000 in
theorem diskOthers_any (v vo : Value) (L : List F) (ops : List O) (w : World) (hv : FV w v L) (ho : OV w vo ops) (hf : Fit L) (hfo : ∀ o ∈ ops, FitO o) (hlen : L.length * 48 ≤ 140737488355328) (hlo : ops.length * 48 ≤ 140737488355328) :
    Calls Try.prog 7 #[.agg #[v], vo] w fun e w' => e = .returned (.bool true) ∧ Gr w w' := by
  obtain ⟨A, c, hva, hlc, ⟨hc63, _⟩, hfs⟩ := id hv
  have hc63 : c ≤ 9223372036854775807 := hc63
  obtain ⟨Ao, co, hvo, hloc, ⟨hco63, _⟩, hos⟩ := id ho
  have hco63 : co ≤ 9223372036854775807 := hco63
  have HV := Lib.hid hv
  have HO := Lib.hid ho
  have HFS := Lib.hid hfs
  have HOS := Lib.hid hos
  subst hva hvo
  have HFIT := Lib.hid (And.intro hf hfo)
  clear hv ho hf hfo hfs hos
  obtain ⟨n, hn⟩ : ∃ n, n = L.length := ⟨_, rfl⟩
  obtain ⟨m, hm⟩ : ∃ n, n = ops.length := ⟨_, rfl⟩
  have HN := Lib.hid hn
  have HM := Lib.hid hm
  rw [← hn] at HV hlen hlc
  rw [← hm] at HO hlo hloc
  rw [← hn, ← hm]
  clear hn hm
  have HA := Lib.hid (fun w1 => awake_any w1)
  go_enter Try.func7, Try.ntmps7
  go_wp2_with fail
  refine (HA.out _).mono ?_
  rintro e w1 ⟨rfl, g1⟩
  have b1 : w1.cell? ⟨w.heap.size, 0, none⟩ = some (.slice A n c) := g1.cell (by simp)
  have hz1 : w.heap.size < w1.heap.size := Nat.lt_of_lt_of_le (by simp) g1.size
  have G1 := Lib.hid ((gr_box w (.cells #[.slice A n c] 24)).trans g1)
  have HDS : Hid (DS w1 w.heap.size (.slice A n c) w1) := Lib.hid ⟨b1, Gr.refl _, hz1⟩
  have hl48 : L.length * 48 ≤ 140737488355328 := by rw [← HN.out]; exact hlen
  have HFD : Hid (∀ w', Gr w1 w' → ∀ vo', OV w' vo' ops → Calls Try.prog 13 #[.agg #[.slice A n c], vo'] w' fun e w'' => RetDo L ops w' e w'') := Lib.hid (fun w' q vo' hvo' => do_any _ vo' L ops w' (HV.out.gr (G1.out.trans q)) hvo' HFIT.out.1 HFIT.out.2 hl48)
  have HOW : Hid (∀ w', Gr w1 w' → OV w' (.slice Ao m co) ops) := Lib.hid (fun w' q => HO.out.gr (G1.out.trans q))
  have HB1 := Lib.hid b1
  clear g1 b1 hl48 hz1
  go_upto_region 3 with (fail)
  go_cut [5, 6, 7] (fun s5 s6 s7 wx => (∃ x y : Nat, s6 = .int .i64 (x : Int) ∧ s7 = .int .i64 (y : Int)) ∧ DB w1 (run L ops).1 s5 wx ∧ DS w1 w.heap.size (.slice A n c) wx)
  case first =>
    go_region_held3 (fun w' => DS w1 w.heap.size (.slice A n c) w')
      (first
        | (with_reducible exact HDS.out)
        | (with_reducible exact DS.gr HDS.out (Gr.refl _).drew)
        | (with_reducible refine DS.alloc ?_; with_reducible assumption)
        | (with_reducible refine DS.allocDrew ?_; with_reducible assumption)
        | (with_reducible refine DS.gr ?_ ha; with_reducible assumption)
        | (with_reducible refine DS.gr ?_ hb; with_reducible assumption)
        | (with_reducible exact DS.alloc HD4.out)
        | ((with_reducible refine DS.set ?_ ?_); (with_reducible assumption); (first | exact Nat.le_refl _ | exact Nat.le_succ _ | exact Below.size HDw.out.2.1 | exact Below.size HD4.out.2.1)))
      (first
        | (refine step_append_ops rfl (.tmp 19) (.tmp 20) rfl (.slice Ao m co) ops m HM.out ⟨_, rfl⟩ rfl (HOW.out _ (by first | (with_reducible refine (DS.alloc ?_ : DS _ _ _ _).2.1; with_reducible assumption) | exact (‹DS _ _ _ _›).2.1)) hlo ?_; intro A' c' w' ho' ha; have HDw : Hid (DS w1 w.heap.size (.slice A n c) w') := Lib.hid (DS.gr (by assumption) ha); (first | (have t80 : TF w' w1.heap.size := by (first | (refine TF.gr ?_ ha; unfold TF; simp; done) | (refine TF.gr ?_ ha; unfold TF; simp; omega))) | skip); (first | (have t81 : TF w' (w1.heap.size + 1) := by (first | (refine TF.gr ?_ ha; unfold TF; simp; done) | (refine TF.gr ?_ ha; unfold TF; simp; omega))) | skip))
        | (go_at_call 13; (with_reducible refine (HFD.out _ ?_ _ ?_).mono ?_); exact (‹DS _ _ _ _›).2.1; (first | exact ho' | exact ho'.gr (gr_box _ _)); rintro e w4 ⟨v4, rfl, hf4, hb⟩; obtain ⟨A4, c4, hv4, -, -⟩ := hf4.form; obtain ⟨n4, hn4⟩ := name_len (run L ops).1; rw [hn4] at hv4; subst hv4; have HD4 : Hid (DS w1 w.heap.size (.slice A n c) w4) := Lib.hid (DS.gr (by assumption) hb); (first | (have x80 : w4.cell? ⟨w1.heap.size, 0, none⟩ = some (.slice none 0 0) := by (first | (exact (TF.gr t80 hb).1))) | skip); (first | (have z80 : w4.frozen? ⟨w1.heap.size, 0, none⟩ = false := by (first | (exact (TF.gr t80 hb).2.1))) | skip); (first | (have x81 : w4.cell? ⟨w1.heap.size + 1, 0, none⟩ = some (.slice none 0 0) := by (first | (exact (TF.gr t81 hb).1))) | skip); (first | (have z81 : w4.frozen? ⟨w1.heap.size + 1, 0, none⟩ = false := by (first | (exact (TF.gr t81 hb).2.1))) | skip); (first | (have x82 : w4.cell? ⟨w'.heap.size, 0, none⟩ = some (.slice none 0 0) := by (first | (refine (TF.gr ?_ hb).1; unfold TF; simp; done))) | skip); (first | (have z82 : w4.frozen? ⟨w'.heap.size, 0, none⟩ = false := by (first | (refine (TF.gr ?_ hb).2.1; unfold TF; simp; done))) | skip)))
    all_goals
      have HF4 := Lib.hid hf4
      have HS4 := Lib.hid ‹DS w1 w.heap.size (.slice A n c) _›
      have s1 : w1.heap.size ≤ w'.heap.size := Below.size HDw.out.2.1
      have s2 : w1.heap.size ≤ w4.heap.size := Below.size HD4.out.2.1
      clear hf4
      go_wp2_with fail
      go_meet
      refine ⟨⟨_, _, rfl, rfl⟩, ?_, HS4.out⟩
      first
        | exact DB.alloc HF4.out hn4 s1 s2
        | exact DB.set HF4.out hn4 (by simp) s1 x82
        | exact DB.set HF4.out hn4 (by have := Below.size ha; simp at this; omega) (Nat.le_succ _) x81
        | exact DB.set HF4.out hn4 (by have := Below.size ha; simp at this; omega) (Nat.le_refl _) x80
  case rest =>
    obtain ⟨⟨k6, k7, rfl, rfl⟩, ⟨b5, A5, c5, rfl, x5, hf5, _, _, _⟩, hds⟩ := hcut
    obtain ⟨L5, hL5⟩ : ∃ L5, L5 = (run L ops).1 := ⟨_, rfl⟩
    rw [← hL5] at x5 hf5
    obtain ⟨n5, hn5⟩ := name_len L5
    rw [hn5] at x5 hf5
    have HF5 := Lib.hid hf5.fv
    have HFT5 : Hid (Fit L5) := Lib.hid (by rw [hL5]; exact run_fit HFIT.out.1)
    have HL5 := Lib.hid hL5
    have HX5 := Lib.hid x5
    have HGc := Lib.hid (G1.out.trans hds.2.1)
    have HB2 := Lib.hid (hds.2.1.cell HB1.out)
    clear hL5 x5 hf5 hn5 hds
    go_wp2_with fail
    go_loopw [8] (fun i wr => ∃ k : Nat, k ≤ n ∧ i = .int .i64 (k : Int) ∧ Gr wc wr) (fun i _ => n - (intOf i).toNat)
    case atStart => exact ⟨0, Nat.zero_le _, rfl, Gr.refl _⟩
    case round =>
      obtain ⟨k, hk, rfl, hgr⟩ := hrel
      have HGR := Lib.hid hgr
      have y2 := hgr.cell HB2.out
      clear hgr
      by_cases hlt : k < n
      · have hkL : k < L.length := by rw [← HN.out]; exact hlt
        obtain ⟨a1, o1, rfl, hc1⟩ := HFS.out k hkL
        obtain ⟨f, hfe⟩ : ∃ f, f = L[k] := ⟨_, rfl⟩
        rw [← hfe] at hc1
        have HC1 := Lib.hid (hc1.gr HGc.out)
        obtain ⟨nm, hnm⟩ : ∃ x, x = f.name := ⟨_, rfl⟩
        have hn1 := ((HC1.out).gr HGR.out).1
        rw [← hnm] at hn1
        have HNM := Lib.hid hnm
        clear hc1 hfe hnm
        go_wp2_with fail
        go_loopw [9, 10] (fun t j wx => ∃ q : Nat, q ≤ m ∧ t = .bool (named (ops.take q) nm) ∧ j = .int .i64 (q : Int) ∧ Gr wr wx) (fun _ j _ => m - (intOf j).toNat)
        case atStart => exact ⟨0, Nat.zero_le _, rfl, rfl, Gr.refl _⟩
        case round =>
          obtain ⟨q, hq, rfl, rfl, hgw⟩ := hrel
          have HGW := Lib.hid hgw
          have v2 := hgw.cell y2
          have vn := hgw.cell hn1
          clear hgw
          by_cases hqm : q < m
          · have hqO : q < ops.length := by rw [← HM.out]; exact hqm
            obtain ⟨a2, o2, rfl, hoc⟩ := HOS.out q hqO
            obtain ⟨on, hon⟩ : ∃ x, x = ops[q].name := ⟨_, rfl⟩
            have oc := HGW.out.cell (HGR.out.cell (HGc.out.cell hoc.2.1))
            rw [← hon] at oc
            have hst := named_step (nm := nm) hqO
            rw [← hon] at hst
            rcases hb : named (ops.take q) nm with _ | _
            · have hst2 : named (ops.take (q + 1)) nm = eqS on nm := by rw [hst, hb]; rfl
              have HST := Lib.hid hst2
              clear hst hst2 hon hoc
              go_wp2_with fail
              go_quiet (fail)
              go_wp2_with fail
              go_roundw
              case rel => exact ⟨q + 1, hqm, by rw [HST.out]; rfl, by go_num, HGW.out.drewN _⟩
              case measure => simp [intOf]; omega
            · have hst2 : named (ops.take (q + 1)) nm = true := by rw [hst, hb]; rfl
              have HST := Lib.hid hst2
              clear hst hst2 hon hoc
              go_wp2_with fail
              go_quiet (fail)
              go_wp2_with fail
              go_roundw
              case rel => exact ⟨q + 1, hqm, by rw [HST.out], by go_num, HGW.out.drewN _⟩
              case measure => simp [intOf]; omega
          · have hqe : ops.take q = ops := List.take_of_length_le (by rw [← HM.out]; omega)
            rw [hqe]
            have HGT := Lib.hid (HGR.out.trans HGW.out)
            have v5 := HGT.out.cell HX5.out
            have HOS0 : Hid (OS wc w.heap.size b5 a1 (o1 + k * 3) (.slice (some ⟨a1, o1, none⟩) n c) (.slice A5 n5 c5) nm wr) := Lib.hid ⟨v2, v5, vn, HGT.out⟩
            have HBY := Lib.hid (fun w' (g : Gr wc w') => bytes_any _ L nm w' (HV.out.gr (HGc.out.trans g)) HFIT.out.1)
            have HBZ := Lib.hid (fun w' (g : Gr wc w') => bytes_any _ L5 nm w' (HF5.out.gr g) HFT5.out)
            obtain ⟨x1, hx1⟩ : ∃ x, x = (bytesF L nm).1 := ⟨_, rfl⟩
            obtain ⟨k1, hk1⟩ : ∃ k, k = (bytesF L nm).2 := ⟨_, rfl⟩
            obtain ⟨x2, hx2⟩ : ∃ x, x = (bytesF L5 nm).1 := ⟨_, rfl⟩
            obtain ⟨k2, hk2⟩ : ∃ k, k = (bytesF L5 nm).2 := ⟨_, rfl⟩
            unfold bytesV at HBY HBZ
            rw [← hx1, ← hk1] at HBY
            rw [← hx2, ← hk2] at HBZ
            have HSE : Hid (named ops nm = false → x2 = x1 ∧ k2 = k1) := Lib.hid (fun h => by
              have e : bytesF L5 nm = bytesF L nm := by rw [HL5.out]; exact run_others (named_no h)
              rw [hx2, hx1, hk2, hk1, e]
              exact ⟨rfl, rfl⟩)
            clear v2 v5 vn hqe hx1 hk1 hx2 hk2 y2 hn1
            have hmm : ¬ ((q : Int) < (m : Int)) := by omega
            go_upto_region 12 with (fail)
            go_region_held3 (fun w' => OS wc w.heap.size b5 a1 (o1 + k * 3) (.slice (some ⟨a1, o1, none⟩) n c) (.slice A5 n5 c5) nm w')
              (first
                | (with_reducible exact HOS0.out)
                | (with_reducible exact OS.gr HOS0.out (Gr.refl _).drew)
                | (with_reducible exact OS.gr (OS.gr HOS0.out (Gr.refl _).drew) hb4))
              (first
                | (go_at_call 20; (with_reducible refine (HBY.out _ ?_).mono ?_); exact (OS.gr HOS0.out (Gr.refl _).drew).2.2.2; rintro e w4 ⟨rfl, hb4⟩))
            have HOS4 : Hid (OS wc w.heap.size b5 a1 (o1 + k * 3) (.slice (some ⟨a1, o1, none⟩) n c) (.slice A5 n5 c5) nm w4) := Lib.hid (OS.gr (OS.gr HOS0.out (Gr.refl _).drew) hb4)
            clear hb4
            go_upto_region 13 with (fail)
            go_region_held3 (fun w' => OS wc w.heap.size b5 a1 (o1 + k * 3) (.slice (some ⟨a1, o1, none⟩) n c) (.slice A5 n5 c5) nm w')
              (first
                | (with_reducible exact HOS4.out)
                | (with_reducible exact OS.gr HOS4.out (Gr.refl _).drew)
                | (with_reducible exact OS.gr (OS.gr HOS4.out (Gr.refl _).drew) hb5))
              (first
                | (go_at_call 20; (with_reducible refine (HBZ.out _ ?_).mono ?_); exact (OS.gr HOS4.out (Gr.refl _).drew).2.2.2; rintro e w5 ⟨rfl, hb5⟩))
            have HG5 : Hid (Gr wc w5) := Lib.hid (OS.gr (OS.gr HOS4.out (Gr.refl _).drew) hb5).2.2.2
            clear hb5
            rcases hb : named ops nm with _ | _
            · obtain ⟨rfl, rfl⟩ := HSE.out hb
              have hxx : (x2.toList == x2.toList) = true := eqS_self x2
              go_wp2_with fail
              go_roundw
              case rel => exact ⟨k + 1, hlt, by go_num, HG5.out⟩
              case measure => simp [intOf]; omega
            · go_wp2_with fail
              go_roundw
              case rel => exact ⟨k + 1, hlt, by go_num, HG5.out⟩
              case measure => simp [intOf]; omega
      · go_wp2_with fail
        go_ret
        exact ⟨rfl, HGc.out.trans HGR.out⟩
end Go.Proofs.Ytonlplfjiaejhaa
