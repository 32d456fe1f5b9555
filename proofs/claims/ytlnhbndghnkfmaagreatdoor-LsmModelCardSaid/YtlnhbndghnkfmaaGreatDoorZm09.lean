/- Walks: building a table, the program's. Walks: Unpack, the whole. -/
import Derived.Test.YtlnhbndghnkfmaaGreatDoorZm08
import Derived.Test.YtlnhbndghnkfmaaGreatDoorZm06
namespace Go.Proofs.YtlnhbndghnkfmaaGreatDoor
open Go.RowKit

/-- Behind k blocks. -/
structure PBInv (L : List PR) (k : Nat) (vi : Value) (B b : Nat) (w wr : World) : Prop where
  hk : 8 * k ≤ L.length + 7
  ok : okK L k
  own : SO wr w.heap.size vi (idxK L k)
  bld : Bld B b (joinL (bodiesK L k)) wr
  gr : Gr w wr
  hB : w.heap.size ≤ B
  hB2 : B ≤ wr.heap.size
def PBRel (L : List PR) (B b : Nat) (w : World) (ix i : Value) (wr : World) : Prop := ∃ k : Nat, i = .int .i64 ((8 * k : Nat) : Int) ∧ PBInv L k ix B b w wr
theorem elemPair : Tryz.prog.underlying 48 = some (.slice (Tryz.prog.elem 48)) ∧ Tryz.prog.elem 48 = 66 := ⟨by kernel_rfl, by kernel_rfl⟩
theorem sizePair : ∀ W : World, (sizeOf 66).run Tryz.prog W = .ok 2 W := fun W => by kernel_rfl
theorem slice_mid (n c k m : Nat) (hk : k ≤ m) (hm : m ≤ c) (A : Option Addr) : ∀ W : World, (Instr.slice 48 (.slice A n c) (some (.int .i64 (k : Int))) (some (.int .i64 (m : Int))) none).run Tryz.prog W = .ok (sliced A k m c 2) W := by
  intro W
  rw [run_slice_lh W _ A n c elemPair.1 .i64 .i64 (k : Int) (m : Int) (by omega) (by omega) (by omega), elemPair.2, sizePair]
  rfl
theorem pv_mid {w : World} {A : Option Addr} {n c k m : Nat} {L : List PR} (hn : n = L.length) (h : PV w (.slice A n c) L) (hk : k ≤ m) (hm : m ≤ n) : PV w (sliced A k m c 2) ((L.take m).drop k) := by
  have h1 := h.sl
  rw [← hn] at h1
  have h2 := (h1.take hm).drop hk
  refine PV.of_sl (n := m - k) ?_
  unfold pcells at h2 ⊢
  rw [rows_take pcell 2 pcell_len, rows_drop pcell 2 pcell_len] at h2
  exact h2
theorem sliced_at (b off k m c : Nat) (h : k < c) : sliced (some ⟨b, off, none⟩) k m c 2 = .slice (some ⟨b, off + k * 2, none⟩) (m - k) (c - k) := by
  unfold sliced
  rw [if_neg (by omega)]
  simp [Addr.add]
theorem mid_chunk (L : List PR) (k m : Nat) (hm : m = min (8 * k + 8) L.length) : (L.take m).drop (8 * k) = chunk L k := by
  unfold chunk
  rw [List.drop_take, hm]
  rcases Nat.le_total (8 * k + 8) L.length with h | h
  · rw [Nat.min_eq_left h, show 8 * k + 8 - 8 * k = 8 from by omega]
  · rw [Nat.min_eq_right h, List.take_of_length_le (by rw [List.length_drop]; exact Nat.le_refl _), List.take_of_length_le (by rw [List.length_drop]; omega)]
abbrev BK (b o : Nat) (x : ByteArray) (B bb : Nat) (l : List UInt8) (w0 w' : World) : Prop := w'.cell? ⟨b, o, none⟩ = some (.string x) ∧ Gr w0 w' ∧ Bld B bb l w'
theorem BK.gr {b o : Nat} {x : ByteArray} {B bb : Nat} {l : List UInt8} {w0 w1 w2 : World} (h : BK b o x B bb l w0 w1) (g : Gr w1 w2) : BK b o x B bb l w0 w2 := ⟨g.cell h.1, h.2.1.trans g, h.2.2.gr g⟩

set_option maxRecDepth 100000 in
set_option maxHeartbeats 4000000 in
theorem build_any (v : Value) (L : List PR) (w : World) (hv : PV w v L) (hmax : ∀ p ∈ L, p.key.size ≤ 281474976710656 ∧ p.val.size ≤ 281474976710656) (hH : Halves w) :
    Calls Tryz.prog 129 #[v] w fun e w' => e = .returned (.tuple #[.string (buildR L).1, .int .i64 ((buildR L).2 : Int)]) ∧ Gr w w' := by
  have HV := Lib.hid hv
  have HH := Lib.hid hH
  clear hH
  obtain ⟨A, c, rfl, l1, ⟨l2, _⟩, l3⟩ := hv
  have hc63 : c ≤ 9223372036854775807 := l2
  have HP := Lib.hid l3
  have HMAX := Lib.hid hmax
  obtain ⟨n, hn⟩ : ∃ n, n = L.length := ⟨_, rfl⟩
  rw [← hn] at l1 HV ⊢
  have HN := Lib.hid hn
  clear l2 l3 hn hmax
  by_cases hbig : 1024 < n
  · have HF : Hid (buildR L = (⟨#[]⟩, 2)) := Lib.hid (buildR_long (by rw [← HN.out]; exact hbig))
    go_enter Tryz.func129, Tryz.ntmps129
    go_wp2_with fail
    go_ret2
    exact ⟨by rw [HF.out]; rfl, Gr.refl _⟩
  have HBIG : Hid (¬ 1024 < L.length) := Lib.hid (by rw [← HN.out]; exact hbig)
  by_cases hr : rises L
  · have H0 := Lib.hid (rising_any (.slice A n c) L true ⟨fun _ => hr, fun _ => rfl⟩ w HV.out)
    have HF : Hid (¬ okTab L → buildR L = (⟨#[]⟩, 2)) := Lib.hid (buildR_no HBIG.out hr)
    have HR := Lib.hid hr
    clear hr
    go_enter Tryz.func129, Tryz.ntmps129
    go_wp2_with fail
    refine H0.out.mono ?_
    rintro e w1 ⟨rfl, g1⟩
    have HBN := Lib.hid (Bld.new w1)
    have HG1 := Lib.hid (g1.alloc (.cells #[.pointer none, .slice none 0 0] 177))
    have hB := g1.size
    clear g1
    go_wp2_with fail
    obtain ⟨W1, hW1⟩ : ∃ W, W = w1.alloc (.cells #[.pointer none, .slice none 0 0] 177) := ⟨_, rfl⟩
    have hB1 : w1.heap.size ≤ W1.heap.size := by rw [hW1]; simp
    obtain ⟨B, hBe⟩ : ∃ B, B = w1.heap.size := ⟨_, rfl⟩
    rw [← hW1] at HBN HG1
    rw [← hBe] at HBN hB hB1
    try rw [← hW1]
    try rw [← hBe]
    clear hW1 hBe
    go_loopw [5, 6] (fun ix i wr => PBRel L B B w ix i wr) (fun _ i _ => n + 8 - (intOf i).toNat)
    case atStart => exact ⟨0, rfl, ⟨by omega, fun j hj => absurd hj (Nat.not_lt_zero _), SO.nil _ _, HBN.out, HG1.out, hB, hB1⟩⟩
    case round =>
      obtain ⟨k, rfl, inv⟩ := hrel
      have HI := Lib.hid inv
      have hk8 := inv.hk
      rw [← HN.out] at hk8
      clear inv hB1
      by_cases hlt2 : 8 * k < n
      · obtain ⟨i8, hi8⟩ : ∃ i, i = 8 * k := ⟨_, rfl⟩
        rw [← hi8] at hlt2 hk8 ⊢
        have HI8 := Lib.hid hi8
        clear hi8
        have hkL : 8 * k < L.length := by rw [← HI8.out, ← HN.out]; exact hlt2
        obtain ⟨b, off, rfl, q0, -⟩ := HP.out (8 * k) hkL
        obtain ⟨m, hm⟩ : ∃ m, m = min (i8 + 8) n := ⟨_, rfl⟩
        have hm1 : i8 < m := by omega
        have hm2 : m ≤ n := by omega
        have hsl := slice_mid n c i8 m (by omega) (by omega) (some ⟨b, off, none⟩)
        have hpv := pv_mid HN.out HV.out (k := i8) (m := m) (by omega) hm2
        rw [sliced_at b off i8 m c (by omega)] at hsl hpv
        rw [HI8.out, mid_chunk L k m (by rw [hm, HI8.out, HN.out]), ← HI8.out] at hpv
        have HPV := Lib.hid hpv
        have hmm : ((m : Nat) : Int) = min ((i8 : Int) + 8) (n : Int) := by omega
        have hw8 : IntKind.i64.wrap ((i8 : Int) + 8) = (i8 : Int) + 8 := IntWalk.i64_in _ (by omega)
        rw [hmm] at hsl
        have hcl := chunk_len L k
        have HFL := Lib.hid (fun (w2 : World) (g : Gr w w2) => flat_any _ (chunk L k) w2 (HPV.out.gr g) (by rw [hcl]; omega))
        obtain ⟨ob, hob⟩ : ∃ o, o = off + i8 * 2 := ⟨_, rfl⟩
        obtain ⟨q, hq⟩ : ∃ q, q = m - i8 := ⟨_, rfl⟩
        obtain ⟨cq, hcq⟩ : ∃ q, q = c - i8 := ⟨_, rfl⟩
        rw [← hob, ← hq, ← hcq] at hsl HFL
        obtain ⟨x, hx⟩ : ∃ x, x = L[8 * k].key := ⟨_, rfl⟩
        rw [← hx, ← HI8.out, ← hob] at q0
        have HX := Lib.hid hx
        have HQ0 := Lib.hid q0
        have hbb := bodiesK_bytes HI.out.ok
        have hkn : k ≤ 128 := by have := HI8.out; omega
        have hmk : ∀ s ∈ kvs (chunk L k), s.size ≤ maxLen := by
          intro s hs
          have hle : (281474976710656 : Nat) ≤ maxLen := by unfold maxLen; omega
          obtain ⟨p, hp, hps⟩ := List.mem_flatMap.1 hs
          have := HMAX.out p (List.drop_subset _ _ (List.take_subset _ _ hp))
          simp only [List.mem_cons, List.not_mem_nil, or_false] at hps
          rcases hps with rfl | rfl
          · exact Nat.le_trans this.1 hle
          · exact Nat.le_trans this.2 hle
        have H1 := Lib.hid (fun (v2 : Value) (w2 : World) (g : Gr w w2) (hs : SV w2 v2 (kvs (chunk L k))) => packed_any v2 (kvs (chunk L k)) w2 hs hmk (HH.out.gr g))
        have hq1 : 0 < q := by omega
        have hq2 : (0 : Int) < (q : Int) := by omega
        have hq3 : ¬ (q : Int) ≤ 0 := by omega
        have hq4 : (0 : Int).toNat = 0 := rfl
        have hoi := own_form HI.out.own
        rw [idxK_len] at hoi
        obtain ⟨Ai, ci, hii, -, -⟩ := hoi
        subst hii
        clear hmk hm hob hq hcq hx hpv hcl q0
        by_cases hok : okBlk (kvs (chunk L k))
        · have HPV2 := Lib.hid (packedVal_yes hok)
          obtain ⟨bb, hbbE⟩ : ∃ q, q = bytesOf (bodiesK L k) := ⟨_, rfl⟩
          rw [← hbbE] at hbb
          have HBE := Lib.hid hbbE
          have H3 := Lib.hid (fun w1 => num_any bb (by omega) w1)
          have HIS := Lib.hid (idx_succ hkL)
          rw [← HX.out, ← hbbE] at HIS
          have HOK := Lib.hid (okK_succ HI.out.ok hok)
          have hfz := frameB_len (packL (kvs (chunk L k)))
          have hfl := hok.2
          have HFD : Hid ((frameB (bs (packL (kvs (chunk L k))))).data.toList = frameL (bodyC L k)) := Lib.hid (by rw [frameB_data]; rfl)
          obtain ⟨F, hF⟩ : ∃ F, F = frameB (bs (packL (kvs (chunk L k)))) := ⟨_, rfl⟩
          rw [← hF] at HPV2 hfz HFD
          have hfz2 : F.size ≤ 65544 := by omega
          have hu64 : IntKind.u64.wrap (bb : Int) = (bb : Int) := IntWalk.u64_in _ (by omega)
          clear hbbE hok hF hfz hfl
          go_wp2_with fail
          refine (HFL.out _ HI.out.gr).mono ?_
          rintro e w2 ⟨u2, rfl, ho2, g2⟩
          go_wp2_with fail
          refine (H1.out _ _ (HI.out.gr.trans g2) ho2.sv).mono ?_
          rintro e w3 ⟨rfl, g3⟩
          rw [HPV2.out]
          have HG3 := Lib.hid ((HI.out.gr.trans g2).trans g3)
          have HB3 := Lib.hid (HI.out.bld.gr (g2.trans g3))
          have HO3 := Lib.hid (HI.out.own.gr (g2.trans g3))
          have hB3 : B ≤ w3.heap.size := Nat.le_trans HI.out.hB2 (g2.trans g3).size
          have HS : Hid (BK b ob x B B (joinL (bodiesK L k)) w w3) := Lib.hid ⟨HG3.out.cell HQ0.out, HG3.out, HB3.out⟩
          have c0 := HS.out.1
          clear g2 g3 ho2
          go_wp2_with fail
          go_region_held3 (fun w' => BK b ob x B B (joinL (bodiesK L k)) w w')
            (first
              | (with_reducible exact HS.out)
              | (with_reducible exact BK.gr HS.out (Gr.refl _).drew)
              | (with_reducible exact BK.gr hS5 (gr_box _ _))
              | (with_reducible assumption))
            (first
              | (go_at_call 160; (with_reducible refine (bld_len _ _ _ _ (BK.gr HS.out (Gr.refl _).drew).2.2).mono ?_); rintro e w4 ⟨rfl, rfl⟩; have hS4 := BK.gr HS.out (Gr.refl _).drew; rw [joinL_len, ← HBE.out])
              | (go_at_call 159; (with_reducible refine (H3.out _).mono ?_); rintro e w5 ⟨rfl, hb⟩; have hS5 := BK.gr hS4 hb)
              | (refine step_push_bld (w0 := w) rfl (.tmp 41) (.tmp 49) rfl (.slice Ai (2 * k) ci) _ _ _ (2 * k) 2 (idxK_len L k).symm rfl rfl ((HO3.out.gr ((Gr.refl _).drew.trans hb)).gr (gr_box _ _)) rfl (sv_two _ x _) (by omega) (hS5.2.1.alloc _) B B (joinL (bodiesK L k)) (hS5.2.2.gr (gr_box _ _)) ?_; intro A6 c6 w6 hown6 g6 hb6 hz6; have hS6 : BK b ob x B B (joinL (bodiesK L k)) w w6 := ⟨g6.cell HQ0.out, g6, hb6⟩))
          have HW6 := Lib.hid (bld_write B B (joinL (bodiesK L k)) F w6 hb6 (by rw [joinL_len, ← HBE.out]; omega) (Nat.le_trans hB3 (Nat.le_trans (by have := hb.size; simp at this ⊢; omega) hz6)))
          have HO6 : Hid (SO w6 w.heap.size (.slice A6 (2 * k + 2) c6) (idxK L (k + 1))) := Lib.hid (by rw [HIS.out]; exact hown6)
          have HG6 := Lib.hid g6
          have HB6 := Lib.hid hb6.heap.2
          have HZ6 : Hid (B ≤ w6.heap.size) := Lib.hid (Nat.le_trans hB3 (Nat.le_trans (by have := hb.size; simp at this ⊢; omega) hz6))
          clear hS6 hS5 hS4 hb hown6 g6 hb6 hz6 c0 hq1 hq2 hq3 hq4 hu64 hsl hw8 hmm
          go_wp2_with fail
          refine HW6.out.mono ?_
          rintro e w7 ⟨rfl, hb7, hl7, hk7⟩
          rw [HFD.out, ← joinL_snoc] at hb7
          have HB7 : Hid (Bld B B (joinL (bodiesK L (k + 1))) w7) := Lib.hid hb7
          have HO7 := Lib.hid (HO6.out.others HB6.out hk7)
          have HG7 : Hid (Gr w w7) := Lib.hid (Below.trans HG6.out (Below.mono hl7 HI.out.hB))
          have HZ7 := Lib.hid (Nat.le_trans HZ6.out hl7.size)
          clear hb7 hl7 hk7
          go_wp2
          go_roundw
          case rel => exact ⟨k + 1, by rw [show 8 * (k + 1) = 8 * k + 8 from by omega, ← HI8.out]; go_num, ⟨by have := HI8.out; have := HN.out; omega, HOK.out, HO7.out, HB7.out, HG7.out, HI.out.hB, HZ7.out⟩⟩
          case measure => simp [intOf]; omega
        · have HPV2 := Lib.hid (packedVal_no hok)
          have HB : Hid (buildR L = (⟨#[]⟩, 2)) := Lib.hid (HF.out (fun h => hok (h.2.2.1 k (nCh_lt hkL))))
          clear hok
          go_wp2_with fail
          refine (HFL.out _ HI.out.gr).mono ?_
          rintro e w2 ⟨u2, rfl, ho2, g2⟩
          go_wp2_with fail
          refine (H1.out _ _ (HI.out.gr.trans g2) ho2.sv).mono ?_
          rintro e w3 ⟨rfl, g3⟩
          rw [HPV2.out]
          have HG3 := Lib.hid ((HI.out.gr.trans g2).trans g3)
          clear g2 g3 ho2
          go_wp2_with fail
          go_ret2
          exact ⟨by rw [HB.out]; rfl, HG3.out⟩
      · have hke : k = nCh L := nCh_end (by rw [← HN.out]; exact hk8) (by rw [← HN.out]; exact hlt2)
        subst hke
        have hoi := own_form HI.out.own
        rw [idxK_len] at hoi
        obtain ⟨Ai, ci, hii, -, -⟩ := hoi
        subst hii
        have hbb := bodiesK_bytes HI.out.ok
        have hnc : nCh L ≤ 128 := by unfold nCh; rw [← HN.out]; omega
        have hmk : ∀ s ∈ idxK L (nCh L), s.size ≤ maxLen := fun s hs => Nat.le_trans (idx_small HMAX.out s hs) (by unfold maxLen; omega)
        have H1 := Lib.hid (packed_any _ (idxK L (nCh L)) wr HI.out.own.sv hmk (HH.out.gr HI.out.gr))
        have hlt3 : ¬ ((8 * nCh L : Nat) : Int) < (n : Int) := by omega
        clear hmk
        by_cases hok : okBlk (idxK L (nCh L))
        · have HPV2 := Lib.hid (packedVal_yes hok)
          have hfz := frameB_len (packL (idxK L (nCh L)))
          have hfl := hok.2
          have hfd : (frameB (bs (packL (idxK L (nCh L))))).data.toList = frameL (idxL L) := by rw [frameB_data]; rfl
          have htl : (tabL L).length = bytesOf (bodiesK L (nCh L)) + (8 + (packL (idxK L (nCh L))).length) + 8 := by
            rw [tabL_len]
            unfold allB
            rw [bytesOf_append]
            rfl
          have HOK : Hid ((tabL L).length ≤ 1048576 → okTab L) := Lib.hid (fun h => ⟨by rw [← HN.out]; omega, HR.out, HI.out.ok, hok, h⟩)
          obtain ⟨F, hF⟩ : ∃ F, F = frameB (bs (packL (idxK L (nCh L)))) := ⟨_, rfl⟩
          rw [← hF] at HPV2 hfz hfd
          have H3 := Lib.hid (fun w1 => num_any F.size (by omega) w1)
          have hu64 : IntKind.u64.wrap (F.size : Int) = (F.size : Int) := IntWalk.u64_in _ (by omega)
          have hfin : joinL (bodiesK L (nCh L)) ++ F.data.toList ++ (bs (be8 F.size)).data.toList = tabL L := by
            rw [hfd, ← joinL_snoc, hfz]
            rfl
          have hl1 : (joinL (bodiesK L (nCh L))).length + F.size ≤ 140737488355328 := by rw [joinL_len]; omega
          have hl2 : (joinL (bodiesK L (nCh L)) ++ F.data.toList).length + (bs (be8 F.size)).size ≤ 140737488355328 := by
            rw [List.length_append, be8_size, joinL_len, ← Lib.size_eq]; omega
          have HL1 := Lib.hid hl1
          have HL2 := Lib.hid hl2
          obtain ⟨E, hE⟩ : ∃ E, E = bs (be8 F.size) := ⟨_, rfl⟩
          rw [← hE] at H3 hfin HL2
          have HFIN := Lib.hid hfin
          have HG := Lib.hid HI.out.gr
          obtain ⟨tl, htle⟩ : ∃ q, q = (tabL L).length := ⟨_, rfl⟩
          rw [← htle] at htl HOK
          have HTL := Lib.hid htle
          have hz1 : F.size ≤ 65544 := by omega
          have HBT : Hid (tl ≤ 1048576 → buildR L = (bs (tabL L), 0)) := Lib.hid (fun h => buildR_ok (HOK.out h))
          have HBF : Hid (1048576 < tl → buildR L = (⟨#[]⟩, 2)) := Lib.hid (fun h => HF.out (fun k => by have := k.2.2.2.2; rw [← HTL.out] at this; omega))
          clear hE hok hF hfz hfl hfd hfin hl1 hl2 htle hbb htl
          go_wp2_with fail
          refine H1.out.mono ?_
          rintro e w1 ⟨rfl, g1⟩
          rw [HPV2.out]
          have HB1 := Lib.hid (HI.out.bld.gr g1)
          have HZ1 := Lib.hid (Nat.le_trans HI.out.hB2 g1.size)
          have HG1 := Lib.hid (HG.out.trans g1)
          clear g1
          go_wp2_with fail
          refine (bld_write B B _ F w1 HB1.out HL1.out HZ1.out).mono ?_
          rintro e w2 ⟨rfl, hb2, hl2, -⟩
          have HB2 := Lib.hid hb2
          have HG2 : Hid (Gr w w2) := Lib.hid (Below.trans HG1.out (Below.mono hl2 HI.out.hB))
          have HZ2 := Lib.hid (Nat.le_trans HZ1.out hl2.size)
          clear hb2 hl2
          go_wp2_with fail
          refine (H3.out _).mono ?_
          rintro e w3 ⟨rfl, g3⟩
          have HB3 := Lib.hid (HB2.out.gr g3)
          have HG3 := Lib.hid (HG2.out.trans g3)
          have HZ3 := Lib.hid (Nat.le_trans HZ2.out g3.size)
          clear g3
          go_wp2_with fail
          refine (bld_write B B _ E w3 HB3.out HL2.out HZ3.out).mono ?_
          rintro e w4 ⟨rfl, hb4, hl4, -⟩
          rw [HFIN.out] at hb4
          have HB4 := Lib.hid hb4
          have HG4 : Hid (Gr w w4) := Lib.hid (Below.trans HG3.out (Below.mono hl4 HI.out.hB))
          have HZ4 := Lib.hid (Nat.le_trans HZ3.out hl4.size)
          clear hb4 hl4 hu64
          go_wp2_with fail
          refine (bld_len B B _ w4 HB4.out).mono ?_
          rintro e w5 ⟨rfl, rfl⟩
          rw [← HTL.out]
          by_cases hlong : 1048576 < tl
          · have HB := Lib.hid (HBF.out hlong)
            have hl3 : (1048576 : Int) < (tl : Int) := by omega
            clear hlong
            go_wp2_with fail
            go_ret2
            exact ⟨by rw [HB.out]; rfl, HG4.out⟩
          · have HB := Lib.hid (HBT.out (by omega))
            have hl3 : ¬ (1048576 : Int) < (tl : Int) := by omega
            clear hlong
            go_wp2_with fail
            refine (bld_string B B _ _ HB4.out HZ4.out).mono ?_
            rintro e w6 ⟨rfl, hl6⟩
            have HG6 : Hid (Gr w w6) := Lib.hid (Below.trans HG4.out (Below.mono hl6 HI.out.hB))
            clear hl6
            go_wp2_with fail
            go_ret2
            exact ⟨by rw [HB.out]; rfl, HG6.out⟩
        · have HPV2 := Lib.hid (packedVal_no hok)
          have HB : Hid (buildR L = (⟨#[]⟩, 2)) := Lib.hid (HF.out (fun h => hok h.2.2.2.1))
          have HG := Lib.hid HI.out.gr
          clear hok
          go_wp2_with fail
          refine H1.out.mono ?_
          rintro e w1 ⟨rfl, g1⟩
          rw [HPV2.out]
          have HG1 := Lib.hid (HG.out.trans g1)
          clear g1
          go_wp2_with fail
          go_ret2
          exact ⟨by rw [HB.out]; rfl, HG1.out⟩
  · have H0 := Lib.hid (rising_any (.slice A n c) L false ⟨(fun h => by cases h), fun h => absurd h hr⟩ w HV.out)
    have HF : Hid (buildR L = (⟨#[]⟩, 1)) := Lib.hid (buildR_arg HBIG.out hr)
    clear hr
    go_enter Tryz.func129, Tryz.ntmps129
    go_wp2_with fail
    refine H0.out.mono ?_
    rintro e w1 ⟨rfl, g1⟩
    go_wp2_with fail
    go_ret2
    exact ⟨by rw [HF.out]; rfl, g1⟩
end Go.Proofs.YtlnhbndghnkfmaaGreatDoor
namespace Go.Proofs.YtlnhbndghnkfmaaGreatDoor
open Go.RowKit

def UnpackLoop (cnt : Nat) (s : ByteArray) (w : World) (rv v i : Value) (wr : World) : Prop :=
  ∃ (k : Nat) (r : ByteArray), k ≤ cnt ∧ i = .int .u32 k ∧ rv = .string r ∧ r.size ≤ s.size ∧ UnpackRel cnt (s.data.toList.drop 4) w k r.data.toList v wr
theorem empty_data {r : ByteArray} (h : r.data.toList = []) : r.toList = [] := by rw [ByteArray.toList_eq]; exact h

set_option maxRecDepth 100000 in
set_option maxHeartbeats 2000000 in
theorem unpack_any (s : ByteArray) (hs : s.size ≤ maxLen) (w : World) :
    Calls Tryz.prog 118 #[.string s] w fun e w' => RetUnpack (unpackL s.data.toList) w e w' := by
  have hsz : s.data.toList.length = s.size := (Lib.size_eq s).symm
  have hs2 : s.size ≤ 9223372036854775807 := hs
  by_cases h4 : s.size < 4
  · have HF := Lib.hid (show unpackL s.data.toList = none from by unfold unpackL; rw [if_pos (Or.inl (by omega))])
    clear hsz hs
    go_enter Tryz.func118, Tryz.ntmps118
    go_wp2
    go_ret2
    rw [HF.out]
    exact ⟨rfl, Gr.refl _⟩
  by_cases hbig : 1048576 < s.size
  · have HF := Lib.hid (show unpackL s.data.toList = none from by unfold unpackL; rw [if_pos (Or.inr (by omega))])
    clear hsz hs
    go_enter Tryz.func118, Tryz.ntmps118
    go_wp2
    go_ret2
    rw [HF.out]
    exact ⟨rfl, Gr.refl _⟩
  have h1 := fun k => readShort_any s hs (by omega) (w.drewN k)
  obtain ⟨n, hn⟩ : ∃ n, n = rdS s.data.toList := ⟨_, rfl⟩
  have hnl : n < 4294967296 := by rw [hn]; exact rdS_lt _
  rw [← hn] at h1
  have H1 := Lib.hid h1
  have i4 : (4 : Int) ≤ (s.size : Int) := by omega
  by_cases hcnt : 4096 < n
  · have HF := Lib.hid (show unpackL s.data.toList = none from by unfold unpackL; rw [if_neg (by omega), ← hn, if_pos hcnt])
    clear h1 hn hsz hs
    go_enter Tryz.func118, Tryz.ntmps118
    go_wp2_with fail
    go_quiet (with_reducible exact Calls.quiet_of (H1.out _))
    go_wp2
    go_ret2
    rw [HF.out]
    exact ⟨rfl, (Gr.refl _).drewN _⟩
  obtain ⟨i0, hi, hz0, hz1, hz2⟩ := info_parts infoString
  have HI := Lib.hid (And.intro hi (And.intro hz0 (And.intro hz1 hz2)))
  clear hi hz0 hz1 hz2
  have hu : unpackL s.data.toList = wholeU (unpackN n (s.data.toList.drop 4)) := by
    unfold unpackL; rw [if_neg (by omega), ← hn, if_neg hcnt]
  have HU := Lib.hid hu
  have hrz : (s.extract 4 s.size).size = s.size - 4 := by rw [ByteArray.size_extract]; omega
  have HR0 := Lib.hid (show (s.extract 4 s.size).data.toList = s.data.toList.drop 4 from extract_drop s 4)
  have HRZ := Lib.hid (show (s.extract 4 s.size).size ≤ s.size from by rw [hrz]; omega)
  obtain ⟨M, hM⟩ : ∃ M, M = madeCells (Value.string ⟨#[]⟩).cells (((n : Nat) : Int).toNat * i0.size) := ⟨_, rfl⟩
  have hMs : M.size = n * 1 := by rw [hM, size_madeCells, HI.out.2.2.1, Int.toNat_natCast]
  have hmk : ∀ W : World, (Instr.makeSlice 28 (.int .i64 0) (.int .u32 (n : Int))).run Tryz.prog W = .ok (.slice (some ⟨W.heap.size, 0, none⟩) 0 n) (W.alloc (.cells M 9)) := fun W => by
    have h := run_make (P := Tryz.prog) W 28 9 i0 (.string ⟨#[]⟩) Tryz.underlying28 HI.out.1 HI.out.2.1 .i64 .u32 0 (n : Int) (by omega) (by omega) (by rw [HI.out.2.2.2]; omega) (by omega)
    rw [← hM, Int.toNat_natCast] at h
    exact h
  have HO := Lib.hid (fun W : World => (World.ownsRow_made (e := 9) (size := 1) (base := W.heap.size) W M n (Nat.le_refl _) (by unfold maxLen; omega) hMs))
  have hn6 : n ≤ 4096 := by omega
  have hb6 : s.size ≤ 1048576 := by omega
  clear h1 hn hsz hs hM hMs hu hrz hcnt
  go_enter Tryz.func118, Tryz.ntmps118
  go_wp2_with fail
  go_quiet (with_reducible exact Calls.quiet_of (H1.out _))
  go_wp2_with fail
  clear hmk
  go_loopw [5, 6, 26] (fun rv v i wr => UnpackLoop n s w rv v i wr) (fun _ _ i _ => n - (intOf i).toNat)
  case atStart => exact ⟨0, s.extract 4 s.size, Nat.zero_le _, rfl, rfl, HRZ.out, [], rfl, HO.out (w.drewN nq), ((Gr.refl w).drewN _).alloc _, by rw [HR0.out, Nat.sub_zero]; cases unpackN n (s.data.toList.drop 4) <;> rfl⟩
  case round =>
    obtain ⟨k, r, hk, rfl, rfl, hrs, F, hF, hown, hgr, hun⟩ := hrel
    have hrl : r.data.toList.length = r.size := (Lib.size_eq r).symm
    by_cases hlt : k < n
    · have hc1 := firstField_any r (by unfold maxLen; omega) wr
      obtain ⟨o, ho⟩ : ∃ o, o = fieldF r.data.toList := ⟨_, rfl⟩
      rw [← ho] at hc1
      cases o with
      | none =>
        have hv : ffVal none = .tuple #[.string ⟨#[]⟩, .bool false] := rfl
        rw [hv] at hc1
        have HF := Lib.hid (show unpackL s.data.toList = none from by rw [HU.out, rel_none hlt hun ho.symm]; rfl)
        have H2 := Lib.hid hc1
        clear hc1 hv ho hun hown hF hrl
        go_wp2_with fail
        refine H2.out.mono ?_
        rintro e w1 ⟨rfl, g1⟩
        go_wp2_with fail
        go_ret2
        rw [HF.out]
        exact ⟨rfl, hgr.trans g1⟩
      | some f =>
        have hv : ffVal (some f) = .tuple #[.string (bs f), .bool true] := rfl
        rw [hv] at hc1
        have hfl := fieldF_len ho.symm
        rw [hrl] at hfl
        have hc2 := fun w => clone_any (bs f) (by rw [bs_size]; omega) w
        have hbz := bs_size f
        have hun2 := rel_some hlt hun ho.symm
        have hrd : (r.extract (4 + f.length) r.size).data.toList = r.data.toList.drop (4 + f.length) := extract_drop _ _
        have hrz2 : (r.extract (4 + f.length) r.size).size ≤ s.size := by rw [ByteArray.size_extract]; omega
        obtain ⟨B, hB⟩ : ∃ B, B = bs f := ⟨_, rfl⟩
        obtain ⟨bl, hbl⟩ : ∃ n, n = f.length := ⟨_, rfl⟩
        have hxs := append_ones F f
        obtain ⟨xs, hx⟩ : ∃ xs, xs = (F.map bs).map Value.string := ⟨_, rfl⟩
        have hml : (F.map bs).length = k := by rw [List.length_map, hF]
        rw [← hx, hml] at hown
        rw [← hB] at hc1 hc2 hbz hxs
        rw [← hbl] at hfl hbz hun2 hrd hrz2
        have hfl1 : 4 + bl ≤ r.size := hfl.1
        have hfl2 : bl ≤ 65536 := hfl.2.1
        have H2 := Lib.hid hc1
        have H3 := Lib.hid hc2
        have HN2 := Lib.hid hun2
        have HD := Lib.hid hrd
        have HZ2 := Lib.hid hrz2
        have HX := Lib.hid hx
        have HXS := Lib.hid hxs
        have HF := Lib.hid hF
        have HML := Lib.hid hml
        have HOW := Lib.hid hown
        clear hc1 hc2 hv ho hun hun2 hrd hrz2 hB hbl hx hxs hown hF hml hfl hrl
        go_wp2_with fail
        refine H2.out.mono ?_
        rintro e w1 ⟨rfl, g1⟩
        go_wp2_with fail
        refine (H3.out _).mono ?_
        rintro e w2 ⟨rfl, g2⟩
        have hO := own_gr (own_gr HOW.out g1) g2
        have hB2 : w.heap.size ≤ w2.heap.size := by have := hgr.size; have := g1.size; have := g2.size; omega
        have hgr2 : Below w.heap.size w w2 := (hgr.trans g1).trans g2
        go_wp2_with (at_builtin; refine wpList_append_own _ rfl (.tmp 35) (.tmp 38) 28 rfl w.heap.size 9 i0 (.string ⟨#[]⟩) 1 16 Tryz.underlying28 HI.out.1 HI.out.2.1 HI.out.2.2.1 HI.out.2.2.2 rfl (by decide) _ _ _ rfl (hO.alloc _) ⟨w2.heap.size, 0, none⟩ 1 1 [.string B] rfl rfl ?c1 ?c2 ?c3 ?c4 ?c5 ?_)
        case c1 => exact cell_one_new _ _ _
        case c2 => simp [Value.oneCell']
        case c3 => unfold maxLen; omega
        case c4 => omega
        case c5 => simp; omega
        intro v' w3 hown3 hgrow _
        have hgr3 : Below w.heap.size w w3 := gr_of_grown (hgr2.alloc hB2 _) (hO.alloc _) hgrow (by simp; omega)
        have HO3 := Lib.hid hown3
        clear hown3 hgrow hO hgr2
        go_wp2
        go_roundw
        case rel => exact ⟨k + 1, r.extract (4 + bl) r.size, by omega, by go_num, rfl, HZ2.out, F ++ [f], by rw [List.length_append, HF.out]; rfl, by rw [HXS.out, List.length_append, List.map_append, ← HX.out, HML.out]; exact HO3.out, hgr3, by rw [HD.out]; exact HN2.out⟩
        case measure => simp [intOf]; omega
    · have hkn : k = n := by omega
      have hend := rel_end hkn hun
      rcases hre : r.data.toList with _ | ⟨x, xs⟩
      · have HF := Lib.hid (show unpackL s.data.toList = some F from by rw [HU.out, hend, hre]; rfl)
        have ht := empty_data hre
        have HOW := Lib.hid hown
        clear hend hun hF hrl hre hown hkn
        go_wp2_with fail
        go_ret2
        rw [HF.out]
        exact ⟨_, rfl, HOW.out, hgr⟩
      · have HF := Lib.hid (show unpackL s.data.toList = none from by rw [HU.out, hend, hre]; rfl)
        have ht : r.toList.isEmpty = false := by rw [ByteArray.toList_eq, hre]; rfl
        clear hend hun hF hrl hre hown hkn
        go_wp2_with fail
        go_ret2
        rw [HF.out]
        exact ⟨rfl, hgr⟩
end Go.Proofs.YtlnhbndghnkfmaaGreatDoor
