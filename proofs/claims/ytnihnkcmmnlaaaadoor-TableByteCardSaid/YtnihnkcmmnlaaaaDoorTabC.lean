/- Walks: building a table, the document's. -/
import Derived.Test.YtnihnkcmmnlaaaaDoorTabM
import Derived.Test.YtnihnkcmmnlaaaaDoorPush
import Derived.StillTailTactics
import Derived.Deep.Cut
import Derived.Deep.RegionHeld3
import Derived.Test.YtnihnkcmmnlaaaaDoorRPack
import Derived.Test.YtnihnkcmmnlaaaaDoorCodeG
namespace Go.Proofs.YtnihnkcmmnlaaaaDoor
open Go.RowKit

/-- Behind k blocks. -/
structure TBInv (L : List PR) (k : Nat) (out : ByteArray) (vi : Value) (w wr : World) : Prop where
  hk : 8 * k ≤ L.length + 7
  ok : okK L k
  own : SO wr w.heap.size vi (idxK L k)
  gr : Gr w wr
  out : out = bs (joinL (bodiesK L k))
def TBRel (L : List PR) (w : World) (o ix i : Value) (wr : World) : Prop := ∃ (k : Nat) (out : ByteArray), i = .int .i64 ((8 * k : Nat) : Int) ∧ o = .string out ∧ TBInv L k out ix w wr

/-- The fields of the first m pairs from place i on; the index' row stays. -/
def FLRel (L : List PR) (i : Nat) (wr : World) (f q : Value) (wr' : World) : Prop :=
  ∃ m : Nat, q = .int .i64 ((i + m : Nat) : Int) ∧ m ≤ 8 ∧ i + m ≤ L.length ∧ SO wr' wr.heap.size f (kvs ((L.drop i).take m)) ∧ Gr wr wr'
abbrev RP (b off i : Nat) (x y : ByteArray) (w0 w' : World) : Prop := w'.cell? ⟨b, off + i * 2, none⟩ = some (.string x) ∧ w'.cell? ⟨b, off + i * 2 + 1, none⟩ = some (.string y) ∧ Gr w0 w'
theorem RP.gr {b off i : Nat} {x y : ByteArray} {w0 w1 w2 : World} (h : RP b off i x y w0 w1) (g : Gr w1 w2) : RP b off i x y w0 w2 := ⟨g.cell h.1, g.cell h.2.1, h.2.2.trans g⟩
abbrev RK (b off i : Nat) (x : ByteArray) (w0 w' : World) : Prop := w'.cell? ⟨b, off + i * 2, none⟩ = some (.string x) ∧ Gr w0 w'
theorem RK.gr {b off i : Nat} {x : ByteArray} {w0 w1 w2 : World} (h : RK b off i x w0 w1) (g : Gr w1 w2) : RK b off i x w0 w2 := ⟨g.cell h.1, h.2.trans g⟩
theorem kvs_take_succ (L : List PR) (i m : Nat) (h : i + m < L.length) : kvs ((L.drop i).take (m + 1)) = kvs ((L.drop i).take m) ++ [L[i + m].key, L[i + m].val] := by
  rw [List.take_succ_eq_append_getElem (by rw [List.length_drop]; omega), kvs_append, List.getElem_drop]
  rfl
theorem kvs_take_len (L : List PR) (i m : Nat) (h : i + m ≤ L.length) : (kvs ((L.drop i).take m)).length = 2 * m := by
  rw [kvs_len, List.length_take, List.length_drop]; omega

theorem idx_small {L : List PR} (h : ∀ p ∈ L, p.key.size ≤ 281474976710656 ∧ p.val.size ≤ 281474976710656) {k : Nat} : ∀ s ∈ idxK L k, s.size ≤ 281474976710656 := by
  induction k with
  | zero => intro s hs; cases hs
  | succ k ih =>
    intro s hs
    rcases List.mem_append.1 hs with hs | hs
    · exact ih s hs
    · simp only [List.mem_cons, List.not_mem_nil, or_false] at hs
      rcases hs with rfl | rfl
      · unfold keyAt
        cases hg : L[8 * k]? with
        | none => exact Nat.zero_le _
        | some p => exact (h p (List.mem_of_getElem? hg)).1
      · show 8 ≤ _; decide

set_option maxRecDepth 100000 in
set_option maxHeartbeats 4000000 in
theorem rbuild_any (v : Value) (L : List PR) (w : World) (hv : PV w v L) (hmax : ∀ p ∈ L, p.key.size ≤ 281474976710656 ∧ p.val.size ≤ 281474976710656) :
    Calls Tryd.prog 11 #[v] w fun e w' => e = .returned (.tuple #[.string (buildR L).1, .int .i64 ((buildR L).2 : Int)]) ∧ Gr w w' := by
  obtain ⟨A, c, rfl, l1, ⟨l2, _⟩, l3⟩ := hv
  have hc63 : c ≤ 9223372036854775807 := l2
  have HP := Lib.hid l3
  have HMAX := Lib.hid hmax
  obtain ⟨n, hn⟩ : ∃ n, n = L.length := ⟨_, rfl⟩
  rw [← hn] at l1 ⊢
  have HN := Lib.hid hn
  clear l2 l3 hn hmax
  by_cases hbig : 1024 < n
  · have HF : Hid (buildR L = (⟨#[]⟩, 2)) := Lib.hid (buildR_long (by rw [← HN.out]; exact hbig))
    go_enter Tryd.func11, Tryd.ntmps11
    go_wp2_with fail
    go_ret2
    exact ⟨by rw [HF.out]; rfl, Gr.refl _⟩
  have HBIG : Hid (¬ 1024 < L.length) := Lib.hid (by rw [← HN.out]; exact hbig)
  go_enter Tryd.func11, Tryd.ntmps11
  go_wp2_with fail
  go_loopw [4] (fun i wr => ∃ j : Nat, i = .int .i64 ((j : Int) + 1) ∧ j ≤ n ∧ (∀ q, q < j → ∀ (h : q + 1 < L.length), lessS L[q].key L[q + 1].key = true) ∧ Gr w wr) (fun i _ => n - (intOf i).toNat)
  case atStart => exact ⟨0, rfl, Nat.zero_le _, fun q h => absurd h (Nat.not_lt_zero _), Gr.refl _⟩
  case round =>
    obtain ⟨j, rfl, hj, hall, hgr⟩ := hrel
    have HAL := Lib.hid hall
    have HGR := Lib.hid hgr
    clear hall
    by_cases hlt : j + 1 < n
    · have h1 : j + 1 < L.length := by rw [← HN.out]; exact hlt
      obtain ⟨b, off, rfl, q0, -⟩ := HP.out j (by omega)
      obtain ⟨b', off', hbk, r0, -⟩ := HP.out (j + 1) h1
      injection hbk with hbk
      injection hbk with e1 e2
      subst e1 e2
      have c0 := hgr.cell q0
      have c1 := hgr.cell r0
      obtain ⟨x, hx⟩ : ∃ x, x = L[j].key := ⟨_, rfl⟩
      obtain ⟨y, hy⟩ : ∃ y, y = L[j + 1].key := ⟨_, rfl⟩
      rw [← hx] at c0
      rw [← hy] at c1
      clear q0 r0 hgr
      rcases hls : lessS x y with _ | _
      · have hno : ¬ rises L := fun h => by
          have := h j h1
          rw [← hx, ← hy, hls] at this
          cases this
        have HF : Hid (buildR L = (⟨#[]⟩, 1)) := Lib.hid (buildR_arg HBIG.out hno)
        have hor := leq_not x y
        rw [hls, Bool.not_false, Bool.or_eq_true] at hor
        clear hno hls hx hy
        rcases hor with hor | hor
        · have ht : Go.Op.bytesLess y.toList x.toList = true := hor
          clear hor
          go_wp2_with fail
          go_quiet (fail)
          go_wp2
          go_ret2
          exact ⟨by rw [HF.out]; rfl, HGR.out.drewN _⟩
        · have ht : (y.toList == x.toList) = true := hor
          clear hor
          go_wp2_with fail
          go_quiet (fail)
          go_wp2
          go_ret2
          exact ⟨by rw [HF.out]; rfl, HGR.out.drewN _⟩
      · have ht : Go.Op.bytesLess y.toList x.toList = false := lessS_asymm hls
        have ht2 : (y.toList == x.toList) = false := eqS_ne (lessS_ne hls).symm
        have HA2 : Hid (∀ q, q < j + 1 → ∀ (h : q + 1 < L.length), lessS L[q].key L[q + 1].key = true) := Lib.hid (fun q hq => by
          rcases Nat.lt_or_ge q j with e | e
          · exact HAL.out q e
          · obtain rfl : q = j := by omega
            intro h
            rw [← hx, ← hy]
            exact hls)
        clear hls hx hy
        go_wp2_with fail
        go_quiet (fail)
        go_wp2
        go_roundw
        case rel => exact ⟨j + 1, by go_num, by omega, HA2.out, HGR.out.drewN _⟩
        case measure => simp [intOf]; omega
    · have hr : rises L := fun q h => HAL.out q (by rw [← HN.out] at h; omega) h
      have HF : Hid (¬ okTab L → buildR L = (⟨#[]⟩, 2)) := Lib.hid (buildR_no HBIG.out hr)
      have HR := Lib.hid hr
      clear hr hgr
      go_wp2_with fail
      go_loopw [5, 6, 7] (fun o ix i wr => TBRel L w o ix i wr) (fun _ _ i _ => n + 8 - (intOf i).toNat)
      case atStart => exact ⟨0, ⟨#[]⟩, rfl, rfl, ⟨by omega, fun j hj => absurd hj (Nat.not_lt_zero _), SO.nil _ _, HGR.out, rfl⟩⟩
      case round =>
        obtain ⟨k, out, rfl, rfl, inv⟩ := hrel
        obtain ⟨wo, rfl⟩ : ∃ x, x = wr := ⟨_, rfl⟩
        have HI := Lib.hid inv
        have hk8 := inv.hk
        rw [← HN.out] at hk8
        clear inv
        by_cases hlt2 : 8 * k < n
        · obtain ⟨i8, hi8⟩ : ∃ i, i = 8 * k := ⟨_, rfl⟩
          rw [← hi8] at hlt2 hk8 ⊢
          have HI8 := Lib.hid hi8
          clear hi8
          go_wp2_with fail
          go_loopw [8, 9] (fun f q wr' => FLRel L i8 wo f q wr') (fun _ q _ => i8 + 9 - (intOf q).toNat)
          case atStart => exact ⟨0, rfl, Nat.zero_le _, by rw [← HN.out]; omega, SO.nil _ _, Gr.refl _⟩
          case round =>
            obtain ⟨m, rfl, hm8, hmn, hf, hgr2⟩ := hrel
            rw [← HN.out] at hmn
            have HF2 := Lib.hid hf
            obtain ⟨Af, cf, hff, -, hcf⟩ := own_form hf
            rw [kvs_take_len L i8 m (by rw [← HN.out]; exact hmn)] at hff
            subst hff
            clear hf
            obtain ⟨p, hp⟩ : ∃ p, p = i8 + m := ⟨_, rfl⟩
            rw [← hp] at hmn ⊢
            have HPE := Lib.hid hp
            have hk64 : IntKind.i64.wrap ((i8 : Int) + 8) = (i8 : Int) + 8 := IntWalk.i64_in _ (by omega)
            clear hp
            by_cases hin : p < n ∧ m < 8
            · obtain ⟨h1, h2⟩ := hin
              have h1L : i8 + m < L.length := by rw [← HPE.out, ← HN.out]; exact h1
              have t0 : (0 : Int) ≤ (p : Int) := by omega
              have t1 : (p : Int) < (n : Int) := by omega
              have t2 : (p : Int) < (i8 : Int) + 8 := by have := HPE.out; omega
              have t3 : (p : Int) < (p : Int) + 1 := by omega
              obtain ⟨b, off, rfl, q0, q1⟩ := HP.out (i8 + m) h1L
              have gw := HI.out.gr.trans hgr2
              obtain ⟨x, hx⟩ : ∃ x, x = L[i8 + m].key := ⟨_, rfl⟩
              obtain ⟨y, hy⟩ : ∃ y, y = L[i8 + m].val := ⟨_, rfl⟩
              rw [← hx, ← HPE.out] at q0
              rw [← hy, ← HPE.out] at q1
              have HSo : Hid (RP b off p x y wo wo) := Lib.hid ⟨HI.out.gr.cell q0, HI.out.gr.cell q1, Gr.refl _⟩
              have HS : Hid (RP b off p x y wo wr) := Lib.hid ⟨gw.cell q0, gw.cell q1, hgr2⟩
              have c0 := HS.out.1
              have c1 := HS.out.2.1
              have HK := Lib.hid (kvs_take_succ L i8 m h1L)
              rw [← hx, ← hy] at HK
              have HKL := Lib.hid (kvs_take_len L i8 m (by omega)).symm
              clear gw q0 q1 hx hy hgr2
              go_wp2_with fail
              go_region_held3 (fun w' => RP b off p x y wo w')
                (first
                  | (with_reducible exact HS.out)
                  | (with_reducible exact RP.gr HS.out (Gr.refl _).drew)
                  | (with_reducible exact RP.gr (RP.gr HS.out (Gr.refl _).drew) (gr_box _ _))
                  | (with_reducible exact RP.gr HSo.out g5)
                  | (with_reducible assumption))
                (first
                  | (refine step_push_strs (w0 := wo) rfl (.tmp 56) (.tmp 67) rfl (.slice Af (2 * m) cf) _ _ _ (2 * m) 2 HKL.out rfl rfl ((HF2.out.gr (Gr.refl _).drew).gr (gr_box _ _)) rfl (sv_two _ x y) (by omega) ((HS.out.2.2.drew).alloc _) ?_; intro A5 c5 w5 hown5 g5))
              have HO5 : Hid (SO w5 wo.heap.size (.slice A5 (2 * m + 2) c5) (kvs ((L.drop i8).take (m + 1)))) := Lib.hid (by rw [HK.out]; exact hown5)
              have HG5 := Lib.hid g5
              clear hown5 g5
              go_wp2
              go_roundw
              case rel => exact ⟨m + 1, by rw [← Nat.add_assoc, ← HPE.out]; go_num, by omega, by rw [← Nat.add_assoc, ← HPE.out, ← HN.out]; exact h1, HO5.out, HG5.out⟩
              case measure => simp [intOf]; omega
            · have hch := chunk_end (L := L) (k := k) hm8 (by rw [← HI8.out, ← HPE.out, ← HN.out]; exact hin)
              rw [← HI8.out] at hch
              have hkL : 8 * k < L.length := by rw [← HI8.out, ← HN.out]; exact hlt2
              have hkb : okK L k := HI.out.ok
              have hbb := bodiesK_bytes hkb
              have hkn : k ≤ 128 := by have := HI8.out; omega
              have HSV : Hid (SV wr (.slice Af (2 * m) cf) (kvs (chunk L k))) := Lib.hid (by rw [← hch]; exact SO.sv HF2.out)
              have HG := Lib.hid (HI.out.gr.trans hgr2)
              have HOI := Lib.hid (HI.out.own.gr hgr2)
              have hmk : ∀ s ∈ kvs (chunk L k), s.size ≤ 281474976710656 := by
                intro s hs
                obtain ⟨p, hp, hps⟩ := List.mem_flatMap.1 hs
                have := HMAX.out p (List.drop_subset _ _ (List.take_subset _ _ hp))
                simp only [List.mem_cons, List.not_mem_nil, or_false] at hps
                rcases hps with rfl | rfl
                · exact this.1
                · exact this.2
              have H1 := Lib.hid (fun (w1 : World) (g : Gr wr w1) => rpack_any _ _ w1 (HSV.out.gr g) hmk)
              have hoi := own_form HOI.out
              rw [idxK_len] at hoi
              obtain ⟨Ai, ci, hii, -, -⟩ := hoi
              subst hii
              clear hch hgr2 hmk hm8
              have hor : (p < n ∧ ¬ m < 8) ∨ ¬ p < n := by omega
              clear hin
              by_cases hok : okPack (kvs (chunk L k))
              · have HV := Lib.hid (packVal_yes hok)
                by_cases hfr : (packL (kvs (chunk L k))).length ≤ 65536
                · have H2 := Lib.hid (fun w1 => rframe_yes (bs (packL (kvs (chunk L k)))) (by rw [bs_size]; exact hfr) w1)
                  have H3 := Lib.hid (fun w1 => rnum_any (bytesOf (bodiesK L k)) (by omega) w1)
                  have hos := out_size L k
                  rw [← HI.out.out] at hos
                  have HOS := Lib.hid hos
                  have HIS := Lib.hid (idx_succ hkL)
                  have HOT := Lib.hid (out_succ L k)
                  rw [← HI.out.out] at HOT
                  have HOK := Lib.hid (okK_succ hkb ⟨hok, hfr⟩)
                  obtain ⟨b, off, rfl, q0, -⟩ := HP.out (8 * k) hkL
                  obtain ⟨x, hx⟩ : ∃ x, x = L[8 * k].key := ⟨_, rfl⟩
                  rw [← hx, ← HI8.out] at q0
                  rw [← hx] at HIS
                  obtain ⟨bb, hbbE⟩ : ∃ q, q = bytesOf (bodiesK L k) := ⟨_, rfl⟩
                  rw [← hbbE] at H3 HOS HIS hbb
                  have hfz := frameB_len (bodyC L k)
                  unfold bodyC at hfz HOT
                  obtain ⟨F, hF⟩ : ∃ F, F = frameB (bs (packL (kvs (chunk L k)))) := ⟨_, rfl⟩
                  rw [← hF] at H2 HOT hfz
                  obtain ⟨bd, hbd⟩ : ∃ F, F = bs (packL (kvs (chunk L k))) := ⟨_, rfl⟩
                  rw [← hbd] at H2 HV
                  have HQ0 := Lib.hid q0
                  have hfz2 : F.size ≤ 65544 := by omega
                  have hpx : ((p : Int) < (n : Int) ∧ (i8 : Int) + 8 ≤ (p : Int)) ∨ ¬ (p : Int) < (n : Int) := by have := HPE.out; omega
                  have t0 : (0 : Int) ≤ (i8 : Int) := by omega
                  have t1 : (i8 : Int) < (n : Int) := by omega
                  have t3 : (i8 : Int) < (i8 : Int) + 1 := by omega
                  have hu64 : IntKind.u64.wrap (bb : Int) = (bb : Int) := IntWalk.u64_in _ (by omega)
                  clear hx hbbE hfz hF hbd hos hok hfr q0 hor
                  rcases hpx with ⟨h1, h2⟩ | h1
                  all_goals
                    go_wp2_with fail
                    refine (H1.out _ (Gr.refl _)).mono ?_
                    rintro e w1 ⟨rfl, g1⟩
                    rw [HV.out]
                    go_wp2_with fail
                    refine (H2.out _).mono ?_
                    rintro e w2 ⟨rfl, g2⟩
                    have HG2 := Lib.hid (HG.out.trans (g1.trans g2))
                    have HOI2 := Lib.hid (HOI.out.gr (g1.trans g2))
                    have HQ := Lib.hid (HG2.out.cell HQ0.out)
                    have HS : Hid (RK b off i8 x w w2) := Lib.hid ⟨HQ.out, HG2.out⟩
                    have c0 := HQ.out
                    have hoz := HOS.out
                    clear g1 g2
                    go_wp2_with fail
                    go_region_held3 (fun w' => RK b off i8 x w w')
                      (first
                        | (with_reducible exact HS.out)
                        | (with_reducible exact RK.gr HS.out (Gr.refl _).drew)
                        | (with_reducible exact RK.gr hS4 (gr_box _ _))
                        | (with_reducible assumption))
                      (first
                        | (go_at_call 28; (with_reducible refine (H3.out _).mono ?_); rintro e w4 ⟨rfl, hb⟩; have hS4 := RK.gr (RK.gr HS.out (Gr.refl _).drew) hb)
                        | (refine step_push_strs (w0 := w) rfl (.tmp 85) (.tmp 95) rfl (.slice Ai (2 * k) ci) _ _ _ (2 * k) 2 (idxK_len L k).symm rfl rfl ((HOI2.out.gr ((Gr.refl _).drew.trans hb)).gr (gr_box _ _)) rfl (sv_two _ x _) (by omega) (hS4.2.alloc _) ?_; intro A5 c5 w5 hown5 g5; have hS5 : RK b off i8 x w w5 := ⟨g5.cell HQ0.out, g5⟩))
                    have HO5 : Hid (SO w5 w.heap.size (.slice A5 (2 * k + 2) c5) (idxK L (k + 1))) := Lib.hid (by rw [HIS.out]; exact hown5)
                    have HG5 := Lib.hid g5
                    clear hS5 hS4 hb hown5 g5 c0 t0 t1 t3 hu64
                    go_wp2
                    go_roundw
                    case rel => exact ⟨k + 1, out ++ F, by rw [show 8 * (k + 1) = 8 * k + 8 from by omega, ← HI8.out]; go_num, rfl, ⟨by have := HI8.out; have := HN.out; omega, HOK.out, HO5.out, HG5.out, HOT.out.symm⟩⟩
                    case measure => simp [intOf]; omega
                · have H2 := Lib.hid (fun w1 => rframe_no (bs (packL (kvs (chunk L k)))) (by rw [bs_size]; omega) w1)
                  have HB : Hid (buildR L = (⟨#[]⟩, 2)) := Lib.hid (HF.out (fun h => hfr (h.2.2.1 k (nCh_lt hkL)).2))
                  obtain ⟨bd, hbd⟩ : ∃ F, F = bs (packL (kvs (chunk L k))) := ⟨_, rfl⟩
                  rw [← hbd] at H2 HV
                  have hpx : ((p : Int) < (n : Int) ∧ (i8 : Int) + 8 ≤ (p : Int)) ∨ ¬ (p : Int) < (n : Int) := by have := HPE.out; omega
                  clear hbd hok hfr hor
                  rcases hpx with ⟨h1, h2⟩ | h1
                  all_goals
                    go_wp2_with fail
                    refine (H1.out _ (Gr.refl _)).mono ?_
                    rintro e w1 ⟨rfl, g1⟩
                    rw [HV.out]
                    go_wp2_with fail
                    refine (H2.out _).mono ?_
                    rintro e w2 ⟨rfl, rfl⟩
                    have HG2 := Lib.hid (HG.out.trans g1)
                    clear g1
                    go_wp2_with fail
                    go_ret2
                    exact ⟨by rw [HB.out]; rfl, HG2.out⟩
              · have HV := Lib.hid (packVal_no hok)
                have HB : Hid (buildR L = (⟨#[]⟩, 2)) := Lib.hid (HF.out (fun h => hok (h.2.2.1 k (nCh_lt hkL)).1))
                have hpx : ((p : Int) < (n : Int) ∧ (i8 : Int) + 8 ≤ (p : Int)) ∨ ¬ (p : Int) < (n : Int) := by have := HPE.out; omega
                clear hok hor
                rcases hpx with ⟨h1, h2⟩ | h1
                all_goals
                  go_wp2_with fail
                  refine (H1.out _ (Gr.refl _)).mono ?_
                  rintro e w1 ⟨rfl, g1⟩
                  rw [HV.out]
                  have HG2 := Lib.hid (HG.out.trans g1)
                  clear g1
                  go_wp2_with fail
                  go_ret2
                  exact ⟨by rw [HB.out]; rfl, HG2.out⟩
        · have hke : k = nCh L := nCh_end (by rw [← HN.out]; exact hk8) (by rw [← HN.out]; exact hlt2)
          subst hke
          have hoi := own_form HI.out.own
          rw [idxK_len] at hoi
          obtain ⟨Ai, ci, hii, -, -⟩ := hoi
          subst hii
          have hbb := bodiesK_bytes HI.out.ok
          have hnc : nCh L ≤ 128 := by unfold nCh; rw [← HN.out]; omega
          have hmk : ∀ s ∈ idxK L (nCh L), s.size ≤ 281474976710656 := idx_small HMAX.out
          have H1 := Lib.hid (fun (w1 : World) (g : Gr wo w1) => rpack_any _ _ w1 (HI.out.own.sv.gr g) hmk)
          have hos := out_size L (nCh L)
          rw [← HI.out.out] at hos
          have hlt3 : ¬ ((8 * nCh L : Nat) : Int) < (n : Int) := by omega
          clear hmk
          by_cases hok : okPack (idxK L (nCh L))
          · have HV := Lib.hid (packVal_yes hok)
            by_cases hfr : (packL (idxK L (nCh L))).length ≤ 65536
            · have H2 := Lib.hid (fun w1 => rframe_yes (bs (packL (idxK L (nCh L)))) (by rw [bs_size]; exact hfr) w1)
              have hfz := frameB_len (packL (idxK L (nCh L)))
              have hfe := fin_eq L
              rw [← HI.out.out] at hfe
              unfold idxL at hfe
              have htl : (tabL L).length = bytesOf (bodiesK L (nCh L)) + (8 + (packL (idxK L (nCh L))).length) + 8 := by
                rw [tabL_len]
                unfold allB
                rw [bytesOf_append]
                rfl
              have HOK : Hid ((tabL L).length ≤ 1048576 → okTab L) := Lib.hid (fun h => ⟨by rw [← HN.out]; omega, HR.out, HI.out.ok, ⟨hok, hfr⟩, h⟩)
              obtain ⟨F, hF⟩ : ∃ F, F = frameB (bs (packL (idxK L (nCh L)))) := ⟨_, rfl⟩
              rw [← hF] at H2 hfz hfe
              have H3 := Lib.hid (fun w1 => rnum_any F.size (by omega) w1)
              have hu64 : IntKind.u64.wrap (F.size : Int) = (F.size : Int) := IntWalk.u64_in _ (by omega)
              obtain ⟨bd, hbd⟩ : ∃ F, F = bs (packL (idxK L (nCh L))) := ⟨_, rfl⟩
              rw [← hbd] at H2 HV
              obtain ⟨E, hE⟩ : ∃ E, E = bs (be8 F.size) := ⟨_, rfl⟩
              have hez : E.size = 8 := by rw [hE]; rfl
              rw [← hE] at H3
              rw [← hfz, ← hE] at hfe
              have hsz : out.size + (F.size + E.size) = (tabL L).length := by omega
              have HFE := Lib.hid hfe
              have HG := Lib.hid HI.out.gr
              have hz1 : F.size ≤ 65544 := by omega
              have hz2 : E.size ≤ 8 := by omega
              have hz3 : out.size ≤ 9000000 := by omega
              have hz4 : F.size + E.size ≤ 65552 := by omega
              have hz5 : out.size + (F.size + E.size) ≤ 9065552 := by omega
              clear hE hbd hF hok hfr hfe hfz
              by_cases hlong : 1048576 < (tabL L).length
              · have HB : Hid (buildR L = (⟨#[]⟩, 2)) := Lib.hid (HF.out (fun h => by have := h.2.2.2.2; omega))
                have hl1 : (1048576 : Int) < (out.size : Int) + ((F.size : Int) + (E.size : Int)) := by omega
                have hl2 : (1048576 : Int) < (((out ++ (F ++ E)).size : Nat) : Int) := by rw [ByteArray.size_append, ByteArray.size_append]; omega
                clear htl hsz hlong hez hl2 hos hbb
                go_wp2_with fail
                refine (H1.out _ (Gr.refl _)).mono ?_
                rintro e w1 ⟨rfl, g1⟩
                rw [HV.out]
                go_wp2_with fail
                refine (H2.out _).mono ?_
                rintro e w2 ⟨rfl, g2⟩
                go_wp2_with fail
                refine (H3.out _).mono ?_
                rintro e w3 ⟨rfl, g3⟩
                have HG3 := Lib.hid (((HG.out.trans g1).trans g2).trans g3)
                clear g1 g2 g3
                go_wp2_with fail
                go_ret2
                exact ⟨by rw [HB.out]; rfl, HG3.out⟩
              · have HB : Hid (buildR L = (bs (tabL L), 0)) := Lib.hid (buildR_ok (HOK.out (by omega)))
                have hl1 : ¬ (1048576 : Int) < (out.size : Int) + ((F.size : Int) + (E.size : Int)) := by omega
                have hl2 : ¬ (1048576 : Int) < (((out ++ (F ++ E)).size : Nat) : Int) := by rw [ByteArray.size_append, ByteArray.size_append]; omega
                clear htl hsz hlong hez hl2 hos hbb
                go_wp2_with fail
                refine (H1.out _ (Gr.refl _)).mono ?_
                rintro e w1 ⟨rfl, g1⟩
                rw [HV.out]
                go_wp2_with fail
                refine (H2.out _).mono ?_
                rintro e w2 ⟨rfl, g2⟩
                go_wp2_with fail
                refine (H3.out _).mono ?_
                rintro e w3 ⟨rfl, g3⟩
                have HG3 := Lib.hid (((HG.out.trans g1).trans g2).trans g3)
                clear g1 g2 g3
                go_wp2_with fail
                go_ret2
                exact ⟨by rw [HB.out, ← HFE.out]; rfl, HG3.out⟩
            · have H2 := Lib.hid (fun w1 => rframe_no (bs (packL (idxK L (nCh L)))) (by rw [bs_size]; omega) w1)
              have HB : Hid (buildR L = (⟨#[]⟩, 2)) := Lib.hid (HF.out (fun h => hfr h.2.2.2.1.2))
              obtain ⟨bd, hbd⟩ : ∃ F, F = bs (packL (idxK L (nCh L))) := ⟨_, rfl⟩
              rw [← hbd] at H2 HV
              have HG := Lib.hid HI.out.gr
              clear hbd hok hfr
              go_wp2_with fail
              refine (H1.out _ (Gr.refl _)).mono ?_
              rintro e w1 ⟨rfl, g1⟩
              rw [HV.out]
              go_wp2_with fail
              refine (H2.out _).mono ?_
              rintro e w2 ⟨rfl, rfl⟩
              have HG2 := Lib.hid (HG.out.trans g1)
              clear g1
              go_wp2_with fail
              go_ret2
              exact ⟨by rw [HB.out]; rfl, HG2.out⟩
          · have HV := Lib.hid (packVal_no hok)
            have HB : Hid (buildR L = (⟨#[]⟩, 2)) := Lib.hid (HF.out (fun h => hok h.2.2.2.1.1))
            have HG := Lib.hid HI.out.gr
            clear hok
            go_wp2_with fail
            refine (H1.out _ (Gr.refl _)).mono ?_
            rintro e w1 ⟨rfl, g1⟩
            rw [HV.out]
            have HG2 := Lib.hid (HG.out.trans g1)
            clear g1
            go_wp2_with fail
            go_ret2
            exact ⟨by rw [HB.out]; rfl, HG2.out⟩
end Go.Proofs.YtnihnkcmmnlaaaaDoor
