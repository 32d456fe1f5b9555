/- The law DiskOn: two lists of operations are one. -/
import Derived.Test.YtonlplfjiaejhaaLawI
namespace Go.Proofs.Ytonlplfjiaejhaa
open Go.RowKit

set_option maxRecDepth 100000 in
set_option maxHeartbeats 4000000 in
theorem diskOn_any (v va vb : Value) (L : List F) (opa opb : List O) (w : World) (hv : FV w v L) (ha : OV w va opa) (hb : OV w vb opb) (hf : Fit L) (hfa : ∀ o ∈ opa, FitO o) (hfb : ∀ o ∈ opb, FitO o) (hlen : L.length * 48 ≤ 140737488355328) (hlo : (opa.length + opb.length) * 48 ≤ 140737488355328) :
    Calls Try.prog 6 #[.agg #[v], va, vb] w fun e w' => e = .returned (.bool true) ∧ Gr w w' := by
  obtain ⟨A, c, hva, _⟩ := id hv
  obtain ⟨Ao, co, hvo, _⟩ := id ha
  obtain ⟨Ab, cb, hvb, _⟩ := id hb
  have HV := Lib.hid hv
  have HOA := Lib.hid ha
  have HOB := Lib.hid hb
  subst hva hvo hvb
  have HFIT := Lib.hid (And.intro hf (And.intro hfa hfb))
  clear hv ha hb hf hfa hfb
  obtain ⟨n, hn⟩ : ∃ n, n = L.length := ⟨_, rfl⟩
  obtain ⟨m, hm⟩ : ∃ n, n = opa.length := ⟨_, rfl⟩
  obtain ⟨p, hp⟩ : ∃ n, n = opb.length := ⟨_, rfl⟩
  have HN := Lib.hid hn
  have HM := Lib.hid hm
  have HP := Lib.hid hp
  have HLEN := Lib.hid (And.intro hlen hlo)
  rw [← hn] at HV
  rw [← hm] at HOA
  rw [← hp] at HOB
  rw [← hm, ← hp] at hlo
  rw [← hn, ← hm, ← hp]
  have hlm : m * 48 ≤ 140737488355328 := by omega
  have hlp : p * 48 ≤ 140737488355328 := by omega
  clear hn hm hp hlen
  have HA := Lib.hid (fun w1 => awake_any w1)
  go_enter Try.func6, Try.ntmps6
  go_wp2_with fail
  refine (HA.out _).mono ?_
  rintro e w1 ⟨rfl, g1⟩
  have b1 : w1.cell? ⟨w.heap.size, 0, none⟩ = some (.slice A n c) := g1.cell (by simp)
  have hz1 : w.heap.size < w1.heap.size := Nat.lt_of_lt_of_le (by simp) g1.size
  have G1 := Lib.hid ((gr_box w (.cells #[.slice A n c] 24)).trans g1)
  have HDS : Hid (DS w1 w.heap.size (.slice A n c) w1) := Lib.hid ⟨b1, Gr.refl _, hz1⟩
  have HFD : Hid (∀ w', Gr w1 w' → ∀ vo', OV w' vo' opa → Calls Try.prog 13 #[.agg #[.slice A n c], vo'] w' fun e w'' => RetDo L opa w' e w'') := Lib.hid (fun w' q vo' hvo' => do_any _ vo' L opa w' (HV.out.gr (G1.out.trans q)) hvo' HFIT.out.1 HFIT.out.2.1 HLEN.out.1)
  have HOW : Hid (∀ w', Gr w1 w' → OV w' (.slice Ao m co) opa) := Lib.hid (fun w' q => HOA.out.gr (G1.out.trans q))
  have HB1 := Lib.hid b1
  have HZ1 := Lib.hid hz1
  clear g1 b1 hz1
  go_upto_region 3 with (fail)
  go_cut [7, 8, 9] (fun s7 s8 s9 wx => s8 = .int .i64 ((run L opa).2.1 : Int) ∧ s9 = .int .i64 ((run L opa).2.2 : Int) ∧ DB w1 (run L opa).1 s7 wx ∧ DS w1 w.heap.size (.slice A n c) wx)
  case first =>
    go_region_held3 (fun w' => DS w1 w.heap.size (.slice A n c) w')
      (first
        | (with_reducible exact HDS.out)
        | (with_reducible exact DS.gr HDS.out (Gr.refl _).drew)
        | (with_reducible refine DS.alloc ?_; with_reducible assumption)
        | (with_reducible refine DS.allocDrew ?_; with_reducible assumption)
        | (with_reducible refine DS.gr ?_ ha; with_reducible assumption)
        | (with_reducible refine DS.gr ?_ hb; with_reducible assumption)
        | (with_reducible exact DS.alloc HD4.out)
        | ((with_reducible refine DS.set ?_ ?_); (with_reducible assumption); (first | exact Nat.le_refl _ | exact Nat.le_succ _ | exact Below.size HDw.out.2.1 | exact Below.size HD4.out.2.1)))
      (first
        | (refine step_append_ops rfl (.tmp 20) (.tmp 21) rfl (.slice Ao m co) opa m HM.out ⟨_, rfl⟩ rfl (HOW.out _ (by first | (with_reducible refine (DS.alloc ?_ : DS _ _ _ _).2.1; with_reducible assumption) | exact (‹DS _ _ _ _›).2.1)) hlm ?_; intro A' c' w' ho' ha; have HDw : Hid (DS w1 w.heap.size (.slice A n c) w') := Lib.hid (DS.gr (by assumption) ha); (first | (have t80 : TF w' w1.heap.size := by (first | (refine TF.gr ?_ ha; unfold TF; simp; done) | (refine TF.gr ?_ ha; unfold TF; simp; omega))) | skip); (first | (have t81 : TF w' (w1.heap.size + 1) := by (first | (refine TF.gr ?_ ha; unfold TF; simp; done) | (refine TF.gr ?_ ha; unfold TF; simp; omega))) | skip))
        | (go_at_call 13; (with_reducible refine (HFD.out _ ?_ _ ?_).mono ?_); exact (‹DS _ _ _ _›).2.1; (first | exact ho' | exact ho'.gr (gr_box _ _)); rintro e w4 ⟨v4, rfl, hf4, hb⟩; obtain ⟨A4, c4, hv4, -, -⟩ := hf4.form; obtain ⟨n4, hn4⟩ := name_len (run L opa).1; rw [hn4] at hv4; subst hv4; have HD4 : Hid (DS w1 w.heap.size (.slice A n c) w4) := Lib.hid (DS.gr (by assumption) hb); (first | (have x80 : w4.cell? ⟨w1.heap.size, 0, none⟩ = some (.slice none 0 0) := by (first | (exact (TF.gr t80 hb).1))) | skip); (first | (have z80 : w4.frozen? ⟨w1.heap.size, 0, none⟩ = false := by (first | (exact (TF.gr t80 hb).2.1))) | skip); (first | (have x81 : w4.cell? ⟨w1.heap.size + 1, 0, none⟩ = some (.slice none 0 0) := by (first | (exact (TF.gr t81 hb).1))) | skip); (first | (have z81 : w4.frozen? ⟨w1.heap.size + 1, 0, none⟩ = false := by (first | (exact (TF.gr t81 hb).2.1))) | skip); (first | (have x82 : w4.cell? ⟨w'.heap.size, 0, none⟩ = some (.slice none 0 0) := by (first | (refine (TF.gr ?_ hb).1; unfold TF; simp; done))) | skip); (first | (have z82 : w4.frozen? ⟨w'.heap.size, 0, none⟩ = false := by (first | (refine (TF.gr ?_ hb).2.1; unfold TF; simp; done))) | skip)))
    all_goals
      have HF4 := Lib.hid hf4
      have HS4 := Lib.hid ‹DS w1 w.heap.size (.slice A n c) _›
      have s1 : w1.heap.size ≤ w'.heap.size := Below.size HDw.out.2.1
      have s2 : w1.heap.size ≤ w4.heap.size := Below.size HD4.out.2.1
      clear hf4
      go_wp2_with fail
      go_meet
      refine ⟨rfl, rfl, ?_, HS4.out⟩
      first
        | exact DB.alloc HF4.out hn4 s1 s2
        | exact DB.set HF4.out hn4 (by simp) s1 x82
        | exact DB.set HF4.out hn4 (by have := Below.size ha; simp at this; omega) (Nat.le_succ _) x81
        | exact DB.set HF4.out hn4 (by have := Below.size ha; simp at this; omega) (Nat.le_refl _) x80
  case rest =>
    obtain ⟨rfl, rfl, ⟨b7, A7, c7, rfl, x7, hf7, _, _, hz7⟩, hds⟩ := hcut
    obtain ⟨L1, hL1⟩ : ∃ L1, L1 = (run L opa).1 := ⟨_, rfl⟩
    obtain ⟨k8, hk8⟩ : ∃ k, k = (run L opa).2.1 := ⟨_, rfl⟩
    obtain ⟨k9, hk9⟩ : ∃ k, k = (run L opa).2.2 := ⟨_, rfl⟩
    rw [← hL1] at x7 hf7
    obtain ⟨n7, hn7⟩ := name_len L1
    rw [hn7] at x7 hf7
    have HF7 := Lib.hid hf7.fv
    have HFT7 : Hid (Fit L1) := Lib.hid (by rw [hL1]; exact run_fit HFIT.out.1)
    have HLN7 : Hid (L1.length * 48 ≤ 140737488355328) := Lib.hid (by have h := run_len (L := L) (ops := opa); rw [← hL1] at h; have := HLEN.out.1; omega)
    have HRC := Lib.hid (run_count (L := L) (ops := opa))
    rw [← hk8, ← hk9, ← HM.out] at HRC
    have HAP : Hid (k9 = 0 → run L (opa ++ opb) = bump m (run L1 opb)) := Lib.hid (fun h => by rw [hL1, HM.out]; exact run_append (by rw [← hk9]; exact h))
    have HGc := Lib.hid (G1.out.trans hds.2.1)
    have HB2 := Lib.hid (hds.2.1.cell HB1.out)
    have HZ2 : Hid (w.heap.size < wc.heap.size) := Lib.hid (Nat.lt_of_lt_of_le HZ1.out hds.2.1.size)
    rw [← hk8, ← hk9]
    clear hf7 hn7 hds hk8 hk9 hL1
    by_cases he : k9 = 0
    · subst he
      obtain rfl : k8 = m := HRC.out.2.1 rfl
      obtain ⟨W6, hW6⟩ : ∃ W, W = wc := ⟨_, rfl⟩
      subst hW6
      have HDS7 : Hid (DS W6 b7 (.slice A7 n7 c7) W6) := Lib.hid ⟨x7, Gr.refl _, hz7⟩
      have HFD7 : Hid (∀ w', Gr W6 w' → ∀ vo', OV w' vo' opb → Calls Try.prog 13 #[.agg #[.slice A7 n7 c7], vo'] w' fun e w'' => RetDo L1 opb w' e w'') := Lib.hid (fun w' q vo' hvo' => do_any _ vo' L1 opb w' (HF7.out.gr q) hvo' HFT7.out HFIT.out.2.2 HLN7.out)
      have HOW7 : Hid (∀ w', Gr W6 w' → OV w' (.slice Ab p cb) opb) := Lib.hid (fun w' q => HOB.out.gr (HGc.out.trans q))
      clear x7 hz7
      go_upto_region 6 with (fail)
      go_cut [10, 11, 12] (fun s10 s11 s12 wx => s11 = .int .i64 ((run L1 opb).2.1 : Int) ∧ s12 = .int .i64 ((run L1 opb).2.2 : Int) ∧ DB W6 (run L1 opb).1 s10 wx ∧ DS W6 b7 (.slice A7 n7 c7) wx)
      case first =>
        go_region_held3 (fun w' => DS W6 b7 (.slice A7 n7 c7) w')
          (first
            | (with_reducible exact HDS7.out)
            | (with_reducible exact DS.gr HDS7.out (Gr.refl _).drew)
            | (with_reducible refine DS.alloc ?_; with_reducible assumption)
            | (with_reducible refine DS.allocDrew ?_; with_reducible assumption)
            | (with_reducible refine DS.gr ?_ ha; with_reducible assumption)
            | (with_reducible refine DS.gr ?_ hb; with_reducible assumption)
            | (with_reducible exact DS.alloc HD4.out)
            | ((with_reducible refine DS.set ?_ ?_); (with_reducible assumption); (first | exact Nat.le_refl _ | exact Nat.le_succ _ | exact Below.size HDw.out.2.1 | exact Below.size HD4.out.2.1)))
          (first
            | (refine step_append_ops rfl (.tmp 35) (.tmp 36) rfl (.slice Ab p cb) opb p HP.out ⟨_, rfl⟩ rfl (HOW7.out _ (by first | (with_reducible refine (DS.alloc ?_ : DS _ _ _ _).2.1; with_reducible assumption) | exact (‹DS _ _ _ _›).2.1)) hlp ?_; intro A' c' w' ho' ha; have HDw : Hid (DS W6 b7 (.slice A7 n7 c7) w') := Lib.hid (DS.gr (by assumption) ha); (first | (have t80 : TF w' W6.heap.size := by (first | (refine TF.gr ?_ ha; unfold TF; simp; done) | (refine TF.gr ?_ ha; unfold TF; simp; omega))) | skip); (first | (have t81 : TF w' (W6.heap.size + 1) := by (first | (refine TF.gr ?_ ha; unfold TF; simp; done) | (refine TF.gr ?_ ha; unfold TF; simp; omega))) | skip))
            | (go_at_call 13; (with_reducible refine (HFD7.out _ ?_ _ ?_).mono ?_); exact (‹DS _ _ _ _›).2.1; (first | exact ho' | exact ho'.gr (gr_box _ _)); rintro e w4 ⟨v4, rfl, hf4, hb⟩; obtain ⟨A4, c4, hv4, -, -⟩ := hf4.form; obtain ⟨n4, hn4⟩ := name_len (run L1 opb).1; rw [hn4] at hv4; subst hv4; have HD4 : Hid (DS W6 b7 (.slice A7 n7 c7) w4) := Lib.hid (DS.gr (by assumption) hb); (first | (have x80 : w4.cell? ⟨W6.heap.size, 0, none⟩ = some (.slice none 0 0) := by (first | (exact (TF.gr t80 hb).1))) | skip); (first | (have z80 : w4.frozen? ⟨W6.heap.size, 0, none⟩ = false := by (first | (exact (TF.gr t80 hb).2.1))) | skip); (first | (have x81 : w4.cell? ⟨W6.heap.size + 1, 0, none⟩ = some (.slice none 0 0) := by (first | (exact (TF.gr t81 hb).1))) | skip); (first | (have z81 : w4.frozen? ⟨W6.heap.size + 1, 0, none⟩ = false := by (first | (exact (TF.gr t81 hb).2.1))) | skip); (first | (have x82 : w4.cell? ⟨w'.heap.size, 0, none⟩ = some (.slice none 0 0) := by (first | (refine (TF.gr ?_ hb).1; unfold TF; simp; done))) | skip); (first | (have z82 : w4.frozen? ⟨w'.heap.size, 0, none⟩ = false := by (first | (refine (TF.gr ?_ hb).2.1; unfold TF; simp; done))) | skip)))
        all_goals
          have HF4 := Lib.hid hf4
          have HS4 := Lib.hid ‹DS W6 b7 (.slice A7 n7 c7) _›
          have s1 : W6.heap.size ≤ w'.heap.size := Below.size HDw.out.2.1
          have s2 : W6.heap.size ≤ w4.heap.size := Below.size HD4.out.2.1
          clear hf4
          go_wp2_with fail
          go_meet
          refine ⟨rfl, rfl, ?_, HS4.out⟩
          first
            | exact DB.alloc HF4.out hn4 s1 s2
            | exact DB.set HF4.out hn4 (by simp) s1 x82
            | exact DB.set HF4.out hn4 (by have := Below.size ha; simp at this; omega) (Nat.le_succ _) x81
            | exact DB.set HF4.out hn4 (by have := Below.size ha; simp at this; omega) (Nat.le_refl _) x80
      case rest =>
        obtain ⟨rfl, rfl, ⟨b10, A10, c10, rfl, x10, hf10, _, _, hz10⟩, hds⟩ := hcut
        obtain ⟨W7, hW7⟩ : ∃ W, W = wc := ⟨_, rfl⟩
        subst hW7
        obtain ⟨L2, hL2⟩ : ∃ L2, L2 = (run L1 opb).1 := ⟨_, rfl⟩
        obtain ⟨k11, hk11⟩ : ∃ k, k = (run L1 opb).2.1 := ⟨_, rfl⟩
        obtain ⟨k12, hk12⟩ : ∃ k, k = (run L1 opb).2.2 := ⟨_, rfl⟩
        have HAB : Hid (run L (opa ++ opb) = (L2, k11 + k8, k12)) := Lib.hid (by rw [HAP.out rfl, hL2, hk11, hk12]; rfl)
        have hk11p : k11 ≤ p := by rw [hk11, HP.out]; exact run_count.1
        rw [← hL2] at x10 hf10
        rw [← hk11, ← hk12]
        obtain ⟨n10, hn10⟩ := name_len L2
        rw [hn10] at x10 hf10
        have HF10 := Lib.hid hf10.fv
        have X10 := Lib.hid x10
        have HG7 := Lib.hid (HGc.out.trans hds.2.1)
        have HB7 := Lib.hid (hds.2.1.cell HB2.out)
        have HDSB : Hid (DS W7 w.heap.size (.slice A n c) W7) := Lib.hid ⟨HB7.out, Gr.refl _, Nat.lt_of_lt_of_le HZ2.out hds.2.1.size⟩
        have HFDB : Hid (∀ w', Gr W7 w' → ∀ vo', OV w' vo' (opa ++ opb) → Calls Try.prog 13 #[.agg #[.slice A n c], vo'] w' fun e w'' => RetDo L (opa ++ opb) w' e w'') := Lib.hid (fun w' q vo' hvo' => do_any _ vo' L (opa ++ opb) w' (HV.out.gr (HG7.out.trans q)) hvo' HFIT.out.1 (fun o ho => by
          rcases List.mem_append.1 ho with h | h
          · exact HFIT.out.2.1 o h
          · exact HFIT.out.2.2 o h) HLEN.out.1)
        have HOWA : Hid (∀ w', Gr W7 w' → OV w' (.slice Ao k8 co) opa) := Lib.hid (fun w' q => HOA.out.gr (HG7.out.trans q))
        have HOWB : Hid (∀ w', Gr W7 w' → OV w' (.slice Ab p cb) opb) := Lib.hid (fun w' q => HOB.out.gr (HG7.out.trans q))
        clear x10 hf10 hn10 hds hk11 hk12 hL2 hz10
        have HSUM : Hid (k8 + p = opa.length + opb.length) := Lib.hid (by rw [HM.out, HP.out])
        go_upto_region 7 with (fail)
        go_cut [13, 14, 15] (fun s13 s14 s15 wx => s14 = .int .i64 ((k8 : Int) + (k11 : Int)) ∧ s15 = .int .i64 (k12 : Int) ∧ DB W7 L2 s13 wx ∧ DS W7 w.heap.size (.slice A n c) wx)
        case first =>
          go_region_held3 (fun w' => DS W7 w.heap.size (.slice A n c) w')
            (first
              | (with_reducible exact HDSB.out)
              | (with_reducible exact DS.gr HDSB.out (Gr.refl _).drew)
              | (with_reducible refine DS.alloc ?_; with_reducible assumption)
              | (with_reducible refine DS.allocDrew ?_; with_reducible assumption)
              | (with_reducible refine DS.gr ?_ ha; with_reducible assumption)
              | (with_reducible refine DS.below ?_ hl; with_reducible assumption)
              | (with_reducible refine DS.gr ?_ hb; with_reducible assumption)
              | (with_reducible exact DS.alloc HD4.out)
              | ((with_reducible refine DS.set ?_ ?_); (with_reducible assumption); (first | exact Nat.le_refl _ | exact Nat.le_succ _ | exact Below.size HDw.out.2.1 | exact Below.size HDx.out.2.1 | exact Below.size HD4.out.2.1)))
            (first
              | (refine step_append_ops1 rfl (.tmp 44) (.tmp 45) rfl W7.heap.size (.slice Ao k8 co) opa k8 HM.out ⟨_, rfl⟩ rfl (HOWA.out _ (‹DS _ _ _ _›).2.1) hlm (Below.size (‹DS _ _ _ _›).2.1) ?_; intro A' c' w' ho' ha; have HDw : Hid (DS W7 w.heap.size (.slice A n c) w') := Lib.hid (DS.gr (by assumption) ha); (first | (have t80 : TG w' (W7.heap.size) := by (first | (exact TG.gr (TG.gr (TG.new W7) ((Gr.refl _).alloc _).drew) ha))) | skip); (first | (have t81 : TG w' (W7.heap.size + 1) := by (first | (exact TG.gr (TG.new1 W7 _).drew' ha))) | skip))
              | (refine step_append_ops2 rfl (.tmp 46) (.tmp 47) rfl W7.heap.size (.slice A' k8 c') (.slice Ab p cb) opa opb (k8 + p) HSUM.out rfl rfl (by (first | exact ho' | exact ho'.gr (gr_box _ _))) (HOWB.out _ (‹DS _ _ _ _›).2.1) hlo (Below.size (‹DS _ _ _ _›).2.1) ?_; intro A2 c2 w2 ho2 hl hkeep; have HDx : Hid (DS W7 w.heap.size (.slice A n c) w2) := Lib.hid (DS.below (by assumption) hl); (first | (have u80 : TG w2 (W7.heap.size) := by (first | (exact hkeep _ t80))) | skip); (first | (have u81 : TG w2 (W7.heap.size + 1) := by (first | (exact hkeep _ t81))) | skip); (first | (have u82 : TG w2 (w'.heap.size) := by (first | (exact hkeep _ (TG.new w')))) | skip))
              | (go_at_call 13; (with_reducible refine (HFDB.out _ ?_ _ ?_).mono ?_); exact (‹DS _ _ _ _›).2.1; (first | exact ho2 | exact ho2.gr (gr_box _ _)); rintro e w4 ⟨v4, rfl, hf4, hb⟩; obtain ⟨A4, c4, hv4, -, -⟩ := hf4.form; obtain ⟨n4, hn4⟩ := name_len (run L (opa ++ opb)).1; rw [hn4] at hv4; subst hv4; have HD4 : Hid (DS W7 w.heap.size (.slice A n c) w4) := Lib.hid (DS.gr (by assumption) hb); (first | (have x80 : w4.cell? ⟨W7.heap.size, 0, none⟩ = some (.slice none 0 0) := by (first | (exact (TG.gr u80 hb).cell))) | skip); (first | (have z80 : w4.frozen? ⟨W7.heap.size, 0, none⟩ = false := by (first | (exact (TG.gr u80 hb).free))) | skip); (first | (have x81 : w4.cell? ⟨W7.heap.size + 1, 0, none⟩ = some (.slice none 0 0) := by (first | (exact (TG.gr u81 hb).cell))) | skip); (first | (have z81 : w4.frozen? ⟨W7.heap.size + 1, 0, none⟩ = false := by (first | (exact (TG.gr u81 hb).free))) | skip); (first | (have x82 : w4.cell? ⟨w'.heap.size, 0, none⟩ = some (.slice none 0 0) := by (first | (exact (TG.gr u82 hb).cell))) | skip); (first | (have z82 : w4.frozen? ⟨w'.heap.size, 0, none⟩ = false := by (first | (exact (TG.gr u82 hb).free))) | skip); (first | (have x83 : w4.cell? ⟨w2.heap.size, 0, none⟩ = some (.slice none 0 0) := by (first | (exact (TG.gr (TG.new w2) hb).cell))) | skip); (first | (have z83 : w4.frozen? ⟨w2.heap.size, 0, none⟩ = false := by (first | (exact (TG.gr (TG.new w2) hb).free))) | skip)))
          all_goals
            have HF4 := Lib.hid hf4
            have HS4 := Lib.hid ‹DS W7 w.heap.size (.slice A n c) _›
            have s1 : W7.heap.size ≤ w'.heap.size := Below.size HDw.out.2.1
            have s0 : W7.heap.size ≤ w2.heap.size := Below.size HDx.out.2.1
            have s2 : W7.heap.size ≤ w4.heap.size := Below.size HD4.out.2.1
            have HRR := Lib.hid (show (run L (opa ++ opb)).1 = L2 ∧ (run L (opa ++ opb)).2.1 = k11 + k8 ∧ (run L (opa ++ opb)).2.2 = k12 by rw [HAB.out]; exact ⟨rfl, rfl, rfl⟩)
            clear hf4
            go_wp2_with fail
            go_meet
            refine ⟨by rw [HRR.out.2.1]; congr 1; omega, by rw [HRR.out.2.2], ?_, HS4.out⟩
            rw [← HRR.out.1]
            first
              | exact DB.alloc HF4.out hn4 s0 s2
              | exact DB.set HF4.out hn4 (by simp) s0 x83
              | exact DB.set HF4.out hn4 (by have := Below.size hl; simp at this; omega) s1 x82
              | exact DB.set HF4.out hn4 (by have := Below.size ha; have := Below.size hl; simp at *; omega) (Nat.le_succ _) x81
              | exact DB.set HF4.out hn4 (by have := Below.size ha; have := Below.size hl; simp at *; omega) (Nat.le_refl _) x80
        case rest =>
          obtain ⟨rfl, rfl, ⟨b13, A13, c13, rfl, x13, hf13, _, _, _⟩, hds⟩ := hcut
          obtain ⟨n13, hn13⟩ := name_len L2
          rw [hn13] at x13 hf13
          have HF13 := Lib.hid hf13.fv
          have HG13 := Lib.hid (HG7.out.trans hds.2.1)
          have c10' := hds.2.1.cell X10.out
          have HSM := Lib.hid (same_yes _ _ L2 wc (HF10.out.gr hds.2.1) HF13.out)
          have hkm : k8 ≤ 140737488355328 := by omega
          have e1 : IntKind.i64.wrap ((k8 : Int) + (k11 : Int)) = (k8 : Int) + (k11 : Int) := IntWalk.i64_in _ ⟨by omega, by omega⟩
          clear hds hf13 hn13
          go_wp2_with fail
          refine HSM.out.mono ?_
          rintro e w5 ⟨rfl, g5⟩
          have HG5 := Lib.hid (HG13.out.trans g5)
          clear g5
          go_wp2
          go_ret
          exact ⟨rfl, HG5.out⟩
    · have ht : ((k9 : Int) != 0) = true := by rw [bne_iff_ne]; omega
      have hlt : (k8 : Int) < (m : Int) := by have := HRC.out.2.2 he; omega
      clear he
      go_wp2_with fail
      go_ret
      exact ⟨rfl, HGc.out⟩
end Go.Proofs.Ytonlplfjiaejhaa
