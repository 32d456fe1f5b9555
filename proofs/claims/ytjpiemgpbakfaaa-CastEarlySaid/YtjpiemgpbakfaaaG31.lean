/- Texts CaG, joined. -/
import Derived.Test.YtjpiemgpbakfaaaG30
/- Walk: package cast's Receive. -/
namespace Go.Proofs.Ytjpiemgpbakfaaa
open Go.RowKit Go.Joins
set_option linter.unusedSimpArgs false
set_option linter.unusedVariables false

/-- Receive's answer. -/
def RetR (r : IB × Int × Nat) (w : World) (e : Ending) (w' : World) : Prop := ∃ u' s', e = .returned (.tuple #[.agg (icells u' s'), .int .i64 r.2.1, .int .i64 (r.2.2 : Int)]) ∧ LN w' w.heap.size u' r.1.1 ∧ XN w' w.heap.size s'.v r.1.2 ∧ Gr w w'
theorem recvR_ok {s : IB} {t : TX} (h : (addR s.1 t).1 = 0) : recvR s t = (setN (s.2.length + 1) (addR s.1 t).2 s.2, (cntL (setN (s.2.length + 1) (addR s.1 t).2 s.2).1 : Int) - (cntL s.1 : Int), 0) := by unfold recvR; rw [if_pos h]
theorem recvR_gap {s : IB} {t : TX} (h : (addR s.1 t).1 = 90) : recvR s t = ((holdR s t).1, 0, (holdR s t).2) := by unfold recvR; rw [if_neg (by omega), if_pos h]
theorem recvR_bad {s : IB} {t : TX} (h : ¬ (addR s.1 t).1 = 0) (h2 : ¬ (addR s.1 t).1 = 90) : recvR s t = ((nilL, []), 0, (addR s.1 t).1) := by unfold recvR; rw [if_neg h, if_neg h2]
theorem setN_fit (n : Nat) (l : LG) (W : List TX) (hn : W.length < n) (hf : FitC l) (hW : ∀ t ∈ W, FitT t) : FitC (setN n l W).1 :=
  setN_ind (fun l' W' => FitC l' ∧ ∀ t ∈ W', FitT t) (fun l' _ => FitC l')
    (fun l' W' t ⟨h1, h2⟩ ht ha hc he => ⟨addR_fitC h1 (h2 t ht).2, fun x hx => by
      rcases letF_mem _ _ _ hx with hx | hx
      · cases hx
      · exact h2 x hx⟩) (fun l' W' ⟨h1, _⟩ _ => h1) n l W hn ⟨hf, hW⟩
/-- A box of an inbox, put anew. -/
theorem sl_xv {w : World} {A : Option Addr} {n c : Nat} {L : List TX} (h : XV w (.slice A n c) L) (hn : n = L.length) : ∃ R, texts R = L ∧ n = R.length ∧ SL w 12 (.slice A n c) n (trs R) ∧ TOs w R := by
  obtain ⟨R, h1, h2, h3⟩ := sl_of_xv h
  have : n = R.length := by rw [hn, ← h1, texts_len]
  exact ⟨R, h1, this, by rw [this] at h2 ⊢; exact h2, h3⟩

set_option maxRecDepth 100000 in
set_option maxHeartbeats 8000000 in
theorem receive_any (u : Nat → S3) (A : Option Addr) (n c : Nat) (l : LG) (L : List TX) (t : TX) (At : Option Addr) (nt ct : Nat) (w : World) (h : LV w u l) (hx : XV w (.slice A n c) L) (hn : n = L.length) (hv : TOV w (.slice At nt ct) t.ops) (hf : FitC l) (hL : ∀ t ∈ L, FitT t) (ht : FitT t) (hlen : n ≤ 64) :
    Calls Try.prog 12 #[.agg (icells u ⟨A, n, c⟩), .agg (tcs t (.slice At nt ct))] w fun e w' => RetR (recvR (l, L) t) w e w' := by
  obtain ⟨W, hW, hg, hsz, hI, hX, hZ⟩ := boxesHo u ⟨A, n, c⟩ t (.slice At nt ct) w
  have HI := Lib.hid hI
  have HX := Lib.hid hX
  have HZ := Lib.hid hZ
  have HG := Lib.hid hg
  have HSZ := Lib.hid hsz
  have HLV := Lib.hid h
  have HXV := Lib.hid hx
  have HTV := Lib.hid hv
  have HF := Lib.hid hf
  have HL := Lib.hid hL
  have HT := Lib.hid ht
  have HN := Lib.hid hn
  have HADD := Lib.hid (add_any u l t (.slice At nt ct) W (h.gr hg) hf (hv.gr hg) ht.1 ht.2)
  obtain ⟨q0, q1, q2, q3, q4, q5, q6, q7, q8⟩ := hI.all
  obtain ⟨x0, x1, x2, x3, x4, x5, x6, x7, x8, x9, x10, x11⟩ := hX
  clear hI hZ hg hsz h hx hv hf hL ht hn
  go_enter Try.func12, Try.ntmps12
  go_upto_region 1 with (fail)
  rw [← hW]
  clear hW
  by_cases h0 : (addR l t).1 = 0
  · obtain ⟨l2', hl2⟩ : ∃ x, x = (addR l t).2 := ⟨_, rfl⟩
    have HL2 := Lib.hid hl2
    have HFC2 : Hid (FitC l2') := Lib.hid (by rw [hl2]; exact addR_fitC HF.out HT.out.2)
    have HEQ := Lib.hid (recvR_ok (s := (l, L)) h0)
    rw [h0] at HADD
    clear h0 hl2
    go_wp2_with fail
    refine HADD.out.mono ?_
    rintro e w6 ⟨u6, rfl, hn6, g6⟩
    clear x0 x1 x2 x3 x4 x5 x6 x7 x8 x9 x10 x11 q0 q1 q2 q3 q4 q5 q6 q7 q8
    obtain ⟨W7, hW7, hg7, hL7⟩ := logs_box w6 u6
    obtain ⟨z0, z1, z2, z3, z4, z5, z6, z7⟩ := (zlog_box w6).zero
    obtain ⟨f0, f1, f2, f3, f4, f5, f6, f7⟩ := (zlog_box w6).fz
    have HL7 := Lib.hid hL7
    have HN7 := Lib.hid (hn6.gr hg7)
    have HG7 := Lib.hid (g6.trans hg7)
    clear hL7 hn6 g6 hg7
    go_upto_region 2 with (fail)
    clear z0 z1 z2 z3 z4 z5 z6 z7 f0 f1 f2 f3 f4 f5 f6 f7
    change Code.wp Try.prog _ _ _ (w6.alloc (.cells (lcells u6) 24))
    rw [← hW7]
    clear hW7
    obtain ⟨R, hRt, hRn, hRs, hRo⟩ := sl_xv HXV.out HN.out
    have HRT := Lib.hid hRt
    have HSE := Lib.hid (settle_any u6 l2' A n c R w W7 W.heap.size (by have := HN7.out; rw [← HL2.out] at this; exact this) HG7.out.size (HG.out.trans HG7.out) (hRs.gr (HG.out.trans HG7.out)) hRn hRo HFC2.out (fun r hr => HL.out r.1 (by rw [← HRT.out]; exact List.mem_map_of_mem hr)) hlen)
    obtain ⟨G, hG⟩ : ∃ G, G = setN (n + 1) l2' (texts R) := ⟨_, rfl⟩
    rw [← hG] at HSE
    have HGE : Hid (G = setN (L.length + 1) (addR l t).2 L) := Lib.hid (by rw [hG, HRT.out, HL2.out, HN.out])
    have HFG : Hid (FitC G.1) := Lib.hid (by rw [hG, HRT.out]; exact setN_fit _ _ _ (by rw [← HN.out]; omega) HFC2.out HL.out)
    obtain ⟨l0, l1, l2, l3, l4, l5, l6, l7⟩ := HL7.out.all
    obtain ⟨q0, q1, q2, q3, q4, q5, q6, q7, q8⟩ := (HI.out.gr HG7.out).all
    clear hRt hRn hRs hRo hG
    go_wp2_with fail
    refine HSE.out.mono ?_
    rintro e w8 ⟨u8, ⟨A8, n8, c8⟩, rfl, hl8, hx8, g8⟩
    clear l0 l1 l2 l3 l4 l5 l6 l7 q0 q1 q2 q3 q4 q5 q6 q7 q8
    obtain ⟨W9, hW9, hg9, hs9, hI9⟩ := ibox_new w8 u8 ⟨A8, n8, c8⟩
    obtain ⟨z0, z1, z2, z3, z4, z5, z6, z7, z8⟩ := (zibox w8).zero
    obtain ⟨f0, f1, f2, f3, f4, f5, f6, f7, f8⟩ := (zibox w8).fz
    have HI9 := Lib.hid hI9
    have HL9 := Lib.hid (hl8.gr hg9)
    have HX9 := Lib.hid (hx8.gr hg9)
    have HG9 := Lib.hid ((HG7.out.trans g8).trans hg9)
    have HB89 : Hid (w.heap.size + 3 ≤ w8.heap.size) := Lib.hid (by have := (HG7.out.trans g8).size; have := HSZ.out; omega)
    clear hg9 hs9 hI9 hl8 hx8 g8
    go_upto_region 5 with (fail)
    clear z0 z1 z2 z3 z4 z5 z6 z7 z8 f0 f1 f2 f3 f4 f5 f6 f7 f8
    change Code.wp Try.prog _ _ _ (w8.alloc (.cells (icells u8 ⟨A8, n8, c8⟩) 35))
    rw [← hW9]
    clear hW9
    have HC8 := Lib.hid (fun w1 (g : Gr W9 w1) => count_any u8 G.1 w1 (HL9.out.lv.gr g) HFG.out.len)
    have HC2 := Lib.hid (fun w1 (g : Gr W9 w1) => count_any u l w1 ((HLV.out.gr (HG.out.trans HG9.out)).gr g) HF.out.len)
    obtain ⟨m8, hm8⟩ : ∃ m, m = cntL G.1 := ⟨_, rfl⟩
    obtain ⟨m2, hm2⟩ : ∃ m, m = cntL l := ⟨_, rfl⟩
    have hb8 : m8 ≤ 8 * 1256584717460 := by rw [hm8]; exact cntTo_le (fun i hi => by have := HFG.out.len i hi; omega) 8 (Nat.le_refl _)
    have hb2 : m2 ≤ 8 * 1256584717460 := by rw [hm2]; exact cntTo_le (fun i hi => by have := HF.out.len i hi; omega) 8 (Nat.le_refl _)
    obtain ⟨dd, hdd⟩ : ∃ d, d = (m8 : Int) - (m2 : Int) := ⟨_, rfl⟩
    have hwr : wrap64 ((m8 : Int) - (m2 : Int)) = dd := by rw [hdd]; unfold wrap64; omega
    have hiw : IntKind.i64.wrap ((m8 : Int) - (m2 : Int)) = dd := by rw [hdd]; simp [IntKind.wrap, IntKind.bits, IntKind.signed]; omega
    have HDD : Hid (dd = (cntL G.1 : Int) - (cntL l : Int)) := Lib.hid (by rw [hdd, hm8, hm2])
    rw [← hm8] at HC8
    rw [← hm2] at HC2
    clear hm8 hm2 hb8 hb2 hdd
    refine wp_region_held_drew (S := fun w' => IC w' w8.heap.size u8 ⟨A8, n8, c8⟩ ∧ IC w' w.heap.size u ⟨A, n, c⟩) (by kernel_rfl) ⟨IBox.all (HI9.out.gr (Gr.refl _).drew), IBox.all (HI.out.gr HG9.out.drew)⟩ (fun hHeld => ?_)
    refine hTake (i := 0) rfl (by kernel_rfl) (by kernel_rfl) (by kernel_rfl) (by kernel_rfl) (by assumption) ?_
    apply Exists.intro
    refine ⟨fun _ _ _ h => h, fun wq hq => ?_, ?_⟩
    · go_light
      obtain ⟨⟨p0, p1, p2, p3, p4, p5, p6, p7, p8⟩, ⟨q0, q1, q2, q3, q4, q5, q6, q7, q8⟩⟩ := hq
      go_simp
      try with_reducible rfl
      done
    try simp only [Act.put, List.setIfInBounds_toArray, List.set_cons_zero, List.set_cons_succ]
    refine hTake (i := 1) rfl (by kernel_rfl) (by kernel_rfl) (by kernel_rfl) (by kernel_rfl) (by assumption) ?_
    apply Exists.intro
    refine ⟨fun _ _ _ h => h, fun wq hq => ?_, ?_⟩
    · go_light
      obtain ⟨⟨p0, p1, p2, p3, p4, p5, p6, p7, p8⟩, ⟨q0, q1, q2, q3, q4, q5, q6, q7, q8⟩⟩ := hq
      go_simp
      try with_reducible rfl
      done
    try simp only [Act.put, List.setIfInBounds_toArray, List.set_cons_zero, List.set_cons_succ]
    refine hTake (i := 2) rfl (by kernel_rfl) (by kernel_rfl) (by kernel_rfl) (by kernel_rfl) (by assumption) ?_
    apply Exists.intro
    refine ⟨fun _ _ _ h => h, fun wq hq => ?_, ?_⟩
    · go_light
      obtain ⟨⟨p0, p1, p2, p3, p4, p5, p6, p7, p8⟩, ⟨q0, q1, q2, q3, q4, q5, q6, q7, q8⟩⟩ := hq
      go_simp
      try with_reducible rfl
      done
    try simp only [Act.put, List.setIfInBounds_toArray, List.set_cons_zero, List.set_cons_succ]
    refine hTake (i := 4) rfl (by kernel_rfl) (by kernel_rfl) (by kernel_rfl) (by kernel_rfl) (by assumption) ?_
    apply Exists.intro
    refine ⟨fun _ _ _ h => h, fun wq hq => ?_, ?_⟩
    · go_light
      obtain ⟨⟨p0, p1, p2, p3, p4, p5, p6, p7, p8⟩, ⟨q0, q1, q2, q3, q4, q5, q6, q7, q8⟩⟩ := hq
      go_simp
      try with_reducible rfl
      done
    try simp only [Act.put, List.setIfInBounds_toArray, List.set_cons_zero, List.set_cons_succ]
    refine hTake (i := 5) rfl (by kernel_rfl) (by kernel_rfl) (by kernel_rfl) (by kernel_rfl) (by assumption) ?_
    apply Exists.intro
    refine ⟨fun _ _ _ h => h, fun wq hq => ?_, ?_⟩
    · go_light
      obtain ⟨⟨p0, p1, p2, p3, p4, p5, p6, p7, p8⟩, ⟨q0, q1, q2, q3, q4, q5, q6, q7, q8⟩⟩ := hq
      go_simp
      try with_reducible rfl
      done
    try simp only [Act.put, List.setIfInBounds_toArray, List.set_cons_zero, List.set_cons_succ]
    have hg3 : Gr W9 W9.drew := (Gr.refl _).drew
    generalize W9.drew = W3 at *
    have HG3 := Lib.hid hg3
    have HS3 := Lib.hid hHeld
    clear hg3 hHeld
    refine wpAnyH_ready (rs := [3]) (by kernel_rfl) (by simp) ?_
    refine AllReadyH.cons rfl (fun K hK => ?_) AllReadyH.nil
    go_simp
    go_at_call 24
    refine (HC8.out _ HG3.out).mono ?_
    rintro e w4 ⟨rfl, g4⟩
    have HG4 := Lib.hid (HG3.out.trans g4)
    have HS4 := Lib.hid (And.intro (HS3.out.1.gr g4) (HS3.out.2.gr g4))
    clear g4
    go_wp2_with fail
    refine hK.out _ _ HS4.out (fun _ => ?_)
    clear hK K
    try simp only [Act.put, List.setIfInBounds_toArray, List.set_cons_zero, List.set_cons_succ]
    refine wpAnyH_ready (rs := [6]) (by kernel_rfl) (by simp) ?_
    refine AllReadyH.cons rfl (fun K hK => ?_) AllReadyH.nil
    go_simp
    go_at_call 24
    refine (HC2.out _ HG4.out).mono ?_
    rintro e w5 ⟨rfl, g5⟩
    have HG5 := Lib.hid (HG4.out.trans g5)
    have HS5 := Lib.hid (And.intro (HS4.out.1.gr g5) (HS4.out.2.gr g5))
    clear g5
    go_wp2_with fail
    refine hK.out _ _ HS5.out (fun _ => ?_)
    clear hK K
    try simp only [Act.put, List.setIfInBounds_toArray, List.set_cons_zero, List.set_cons_succ]
    have HZ5 : Hid (IBox w5 (w.heap.size + 1 + 1) Z3 N3) := Lib.hid ((HZ.out.gr HG9.out).gr HG5.out)
    have HS6 : Hid (IC (putI w5 (w.heap.size + 1 + 1) u8 ⟨A8, n8, c8⟩) w8.heap.size u8 ⟨A8, n8, c8⟩ ∧ IC (putI w5 (w.heap.size + 1 + 1) u8 ⟨A8, n8, c8⟩) w.heap.size u ⟨A, n, c⟩) := Lib.hid ⟨IBox.all ((HI9.out.gr HG5.out).kpN (putI_kp _ _ _ _) (by have := HB89.out; omega)), IBox.all (((HI.out.gr HG9.out).gr HG5.out).kpN (putI_kp _ _ _ _) (by omega))⟩
    have HFIN : Hid (IBox (putI w5 (w.heap.size + 1 + 1) u8 ⟨A8, n8, c8⟩) (w.heap.size + 1 + 1) u8 ⟨A8, n8, c8⟩ ∧ LN (putI w5 (w.heap.size + 1 + 1) u8 ⟨A8, n8, c8⟩) w.heap.size u8 G.1 ∧ XN (putI w5 (w.heap.size + 1 + 1) u8 ⟨A8, n8, c8⟩) w.heap.size (S3.v ⟨A8, n8, c8⟩) G.2 ∧ Gr w (putI w5 (w.heap.size + 1 + 1) u8 ⟨A8, n8, c8⟩)) := Lib.hid
      ⟨putI_box HZ5.out, ((HL9.out.gr HG5.out).kpI HZ5.out (putI_kp _ _ _ _)).le HG.out.size, ((HX9.out.gr HG5.out).kpI HZ5.out (putI_kp _ _ _ _)).le HG.out.size, putI_gr ((HG.out.trans HG9.out).trans HG5.out) (show w.heap.size ≤ w.heap.size + 1 + 1 by omega) _ _⟩
    have z0 := HZ5.out.zero.1
    have z1 := HZ5.out.zero.2.1
    have z2 := HZ5.out.zero.2.2.1
    have z3 := HZ5.out.zero.2.2.2.1
    have z4 := HZ5.out.zero.2.2.2.2.1
    have z5 := HZ5.out.zero.2.2.2.2.2.1
    have z6 := HZ5.out.zero.2.2.2.2.2.2.1
    have z7 := HZ5.out.zero.2.2.2.2.2.2.2.1
    have z8 := HZ5.out.zero.2.2.2.2.2.2.2.2
    have f0 := HZ5.out.fz.1
    have f1 := HZ5.out.fz.2.1
    have f2 := HZ5.out.fz.2.2.1
    have f3 := HZ5.out.fz.2.2.2.1
    have f4 := HZ5.out.fz.2.2.2.2.1
    have f5 := HZ5.out.fz.2.2.2.2.2.1
    have f6 := HZ5.out.fz.2.2.2.2.2.2.1
    have f7 := HZ5.out.fz.2.2.2.2.2.2.2.1
    have f8 := HZ5.out.fz.2.2.2.2.2.2.2.2
    refine wpAnyH_ready (rs := [7, 8]) (by kernel_rfl) (by simp) ?_
    refine AllReadyH.cons rfl (fun K hK => ?_) (AllReadyH.cons rfl (fun K hK => ?_) AllReadyH.nil)
    case' refine_1 =>
      go_simp
      refine hK.out _ _ HS5.out (fun _ => ?_)
      clear hK K
      try simp only [Act.put, List.setIfInBounds_toArray, List.set_cons_zero, List.set_cons_succ]
      refine wpAnyH_ready (rs := [8]) (by kernel_rfl) (by simp) ?_
      refine AllReadyH.cons rfl (fun K hK => ?_) AllReadyH.nil
      go_simp
      refine hK.out _ (putI w5 (w.heap.size + 1 + 1) u8 ⟨A8, n8, c8⟩) HS6.out (fun _ => ?_)
      clear hK K
      try simp only [Act.put, List.setIfInBounds_toArray, List.set_cons_zero, List.set_cons_succ]
    case' refine_2 =>
      go_simp
      refine hK.out _ (putI w5 (w.heap.size + 1 + 1) u8 ⟨A8, n8, c8⟩) HS6.out (fun _ => ?_)
      clear hK K
      try simp only [Act.put, List.setIfInBounds_toArray, List.set_cons_zero, List.set_cons_succ]
      refine wpAnyH_ready (rs := [7]) (by kernel_rfl) (by simp) ?_
      refine AllReadyH.cons rfl (fun K hK => ?_) AllReadyH.nil
      go_simp
      refine hK.out _ _ HS6.out (fun _ => ?_)
      clear hK K
      try simp only [Act.put, List.setIfInBounds_toArray, List.set_cons_zero, List.set_cons_succ]
    all_goals
      clear z0 z1 z2 z3 z4 z5 z6 z7 z8 f0 f1 f2 f3 f4 f5 f6 f7 f8
      refine wpAnyH_ready (rs := [9]) (by kernel_rfl) (by simp) ?_
      refine AllReadyH.cons rfl (fun K hK => ?_) AllReadyH.nil
      go_simp
      refine hK.out _ _ HS6.out (fun _ => ?_)
      clear hK K
      try simp only [Act.put, List.setIfInBounds_toArray, List.set_cons_zero, List.set_cons_succ]
      refine wpAnyH_ready (rs := [10]) (by kernel_rfl) (by simp) ?_
      refine AllReadyH.cons rfl (fun K hK => ?_) AllReadyH.nil
      go_simp
      refine hK.out _ _ HS6.out (fun _ => ?_)
      clear hK K
      refine wpAnyH_done (by kernel_rfl) ?_ _
      try simp only [Act.put, List.setIfInBounds_toArray, List.set_cons_zero, List.set_cons_succ]
      obtain ⟨w10, hw10⟩ : ∃ x, x = putI w5 (w.heap.size + 1 + 1) u8 ⟨A8, n8, c8⟩ := ⟨_, rfl⟩
      rw [← hw10] at HFIN ⊢
      obtain ⟨z0, z1, z2, z3, z4, z5, z6, z7, z8⟩ := HFIN.out.1.all
      clear hw10 HS6
      go_wp2_with fail
      refine bodyPost_ret (v := .tuple #[.agg (icells u8 ⟨A8, n8, c8⟩), .int .i64 dd, .int .i64 0]) (by simp [results, hiw, Try.results12, go_sem, z0, z1, z2, z3, z4, z5, z6, z7, z8]) rfl ?_
      refine ⟨u8, ⟨A8, n8, c8⟩, by rw [HEQ.out, HDD.out, HGE.out]; rfl, ?_⟩
      rw [HEQ.out]
      have e := HGE.out
      have r := HFIN.out.2
      rw [e] at r
      exact r
  by_cases h90 : (addR l t).1 = 90
  · have HEQ := Lib.hid (recvR_gap (s := (l, L)) h90)
    rw [h90] at HADD
    clear h0 h90
    go_wp2_with fail
    refine HADD.out.mono ?_
    rintro e w6 ⟨u6, rfl, hn6, g6⟩
    clear x0 x1 x2 x3 x4 x5 x6 x7 x8 x9 x10 x11 q0 q1 q2 q3 q4 q5 q6 q7 q8
    obtain ⟨W7, hW7, hg7, hL7⟩ := logs_box w6 u6
    obtain ⟨z0, z1, z2, z3, z4, z5, z6, z7⟩ := (zlog_box w6).zero
    obtain ⟨f0, f1, f2, f3, f4, f5, f6, f7⟩ := (zlog_box w6).fz
    have HL7 := Lib.hid hL7
    have HN7 := Lib.hid (hn6.gr hg7)
    have HG7 := Lib.hid (g6.trans hg7)
    clear hL7 hn6 g6 hg7
    go_upto_region 2 with (fail)
    clear z0 z1 z2 z3 z4 z5 z6 z7 f0 f1 f2 f3 f4 f5 f6 f7
    change Code.wp Try.prog _ _ _ (w6.alloc (.cells (lcells u6) 24))
    rw [← hW7]
    clear hW7
    have HHO := Lib.hid (hold_any u A n c l L t At nt ct W7 (HLV.out.gr (HG.out.trans HG7.out)) (HXV.out.gr (HG.out.trans HG7.out)) HN.out (HTV.out.gr (HG.out.trans HG7.out)) HF.out HL.out HT.out hlen)
    obtain ⟨r, hr⟩ : ∃ r, r = holdR (l, L) t := ⟨_, rfl⟩
    rw [← hr] at HHO HEQ
    obtain ⟨q0, q1, q2, q3, q4, q5, q6, q7, q8⟩ := (HI.out.gr HG7.out).all
    obtain ⟨x0, x1, x2, x3, x4, x5, x6, x7, x8, x9, x10, x11⟩ := HX.out.gr HG7.out
    clear hr
    go_wp2_with fail
    refine HHO.out.mono ?_
    rintro e w8 ⟨u8, ⟨A8, n8, c8⟩, rfl, hl8, hx8, g8⟩
    clear q0 q1 q2 q3 q4 q5 q6 q7 q8 x0 x1 x2 x3 x4 x5 x6 x7 x8 x9 x10 x11
    obtain ⟨r1, r2⟩ := r
    simp only at hl8 hx8 ⊢
    obtain ⟨W9, hW9, hg9, hs9, hI9⟩ := ibox_new w8 u8 ⟨A8, n8, c8⟩
    obtain ⟨z0, z1, z2, z3, z4, z5, z6, z7, z8⟩ := (zibox w8).zero
    obtain ⟨f0, f1, f2, f3, f4, f5, f6, f7, f8⟩ := (zibox w8).fz
    have HI9 := Lib.hid hI9
    have HL9 := Lib.hid (hl8.gr hg9)
    have HX9 := Lib.hid (hx8.gr hg9)
    have HG9 := Lib.hid ((HG7.out.trans g8).trans hg9)
    clear hg9 hs9 hI9 hl8 hx8 g8
    go_upto_region 8 with (fail)
    clear z0 z1 z2 z3 z4 z5 z6 z7 z8 f0 f1 f2 f3 f4 f5 f6 f7 f8
    change Code.wp Try.prog _ _ _ (w8.alloc (.cells (icells u8 ⟨A8, n8, c8⟩) 35))
    rw [← hW9]
    clear hW9
    have HZ9 := Lib.hid (HZ.out.gr HG9.out)
    have HFIN : Hid (LN (putI W9 (w.heap.size + 1 + 1) u8 ⟨A8, n8, c8⟩) w.heap.size u8 r1.1 ∧ XN (putI W9 (w.heap.size + 1 + 1) u8 ⟨A8, n8, c8⟩) w.heap.size (S3.v ⟨A8, n8, c8⟩) r1.2 ∧ Gr w (putI W9 (w.heap.size + 1 + 1) u8 ⟨A8, n8, c8⟩)) := Lib.hid
      ⟨(HL9.out.kpI HZ9.out (putI_kp _ _ _ _)).le (HG.out.trans HG7.out).size, (HX9.out.kpI HZ9.out (putI_kp _ _ _ _)).le (HG.out.trans HG7.out).size, putI_gr (HG.out.trans HG9.out) (show w.heap.size ≤ w.heap.size + 1 + 1 by omega) _ _⟩
    obtain ⟨p0, p1, p2, p3, p4, p5, p6, p7, p8⟩ := HI9.out.all
    obtain ⟨z0, z1, z2, z3, z4, z5, z6, z7, z8⟩ := HZ9.out.zero
    obtain ⟨f0, f1, f2, f3, f4, f5, f6, f7, f8⟩ := HZ9.out.fz
    go_wp2_with fail
    refine bodyPost_ret (v := .tuple #[.agg (icells u8 ⟨A8, n8, c8⟩), .int .i64 0, .int .i64 (r2 : Int)]) (by simp [results, Try.results12, go_sem, z0, z1, z2, z3, z4, z5, z6, z7, z8]) rfl ?_
    refine ⟨u8, ⟨A8, n8, c8⟩, by rw [HEQ.out], ?_⟩
    rw [HEQ.out]
    exact HFIN.out
  · have HEQ := Lib.hid (recvR_bad (s := (l, L)) h0 h90)
    obtain ⟨e0, he0⟩ : ∃ e, e = (addR l t).1 := ⟨_, rfl⟩
    simp only at HEQ
    rw [← he0] at HADD HEQ h0 h90
    have hb0 : ((e0 : Int) == 0) = false := by simpa using h0
    have hb90 : ((e0 : Int) == 90) = false := by simp only [beq_eq_false_iff_ne]; omega
    have hd0 : ¬ (e0 : Int) = 0 := by omega
    have hd90 : ¬ (e0 : Int) = 90 := by omega
    clear he0 h0 h90
    go_wp2_with fail
    refine HADD.out.mono ?_
    rintro e w6 ⟨u6, rfl, hn6, g6⟩
    clear x0 x1 x2 x3 x4 x5 x6 x7 x8 x9 x10 x11 q0 q1 q2 q3 q4 q5 q6 q7 q8
    obtain ⟨W7, hW7, hg7, hL7⟩ := logs_box w6 u6
    obtain ⟨z0, z1, z2, z3, z4, z5, z6, z7⟩ := (zlog_box w6).zero
    obtain ⟨f0, f1, f2, f3, f4, f5, f6, f7⟩ := (zlog_box w6).fz
    have HL7 := Lib.hid hL7
    have HN7 := Lib.hid (hn6.gr hg7)
    have HG7 := Lib.hid (g6.trans hg7)
    clear hL7 hn6 g6 hg7
    go_upto_region 2 with (fail)
    clear z0 z1 z2 z3 z4 z5 z6 z7 f0 f1 f2 f3 f4 f5 f6 f7
    change Code.wp Try.prog _ _ _ (w6.alloc (.cells (lcells u6) 24))
    rw [← hW7]
    clear hW7
    obtain ⟨z0, z1, z2, z3, z4, z5, z6, z7, z8⟩ := (HZ.out.gr HG7.out).zero
    obtain ⟨f0, f1, f2, f3, f4, f5, f6, f7, f8⟩ := (HZ.out.gr HG7.out).fz
    go_wp2_with fail
    refine bodyPost_ret (v := .tuple #[.agg zic, .int .i64 0, .int .i64 (e0 : Int)]) (by simp [results, Try.results12, go_sem, z0, z1, z2, z3, z4, z5, z6, z7, z8]) rfl ?_
    refine ⟨Z3, N3, by rw [HEQ.out]; rfl, by rw [HEQ.out]; exact nil_LN _ _, by rw [HEQ.out]; exact nil_XN _ _, ?_⟩
    exact putI_gr (HG.out.trans HG7.out) (show w.heap.size ≤ w.heap.size + 1 + 1 by omega) Z3 N3
end Go.Proofs.Ytjpiemgpbakfaaa
