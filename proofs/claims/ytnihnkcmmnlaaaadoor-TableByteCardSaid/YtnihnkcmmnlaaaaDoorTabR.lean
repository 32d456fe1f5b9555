/- The law TableByte. -/
import Derived.Test.YtnihnkcmmnlaaaaDoorTabK
import Derived.Test.YtnihnkcmmnlaaaaDoorTabQ
namespace Go.Proofs.YtnihnkcmmnlaaaaDoor
open Go.RowKit

theorem t_conv1 (w : World) (a : Int) :
    (convert 41 9 (.slice (some ⟨w.heap.size, 0, none⟩) 1 1)).run Tryd.prog (w.alloc (.cells #[.int .u8 a] 5)) =
      .ok (.string (strOfNums [a])) (w.alloc (.cells #[.int .u8 a] 5)) := by
  refine run_convert_bytes_arg _ 41 5 Tryd.underlying41 Tryd.underlying5 _ _ _ _ [a] rfl ?_ _ Tryd.underlying9
  intro i hi
  rw [Nat.zero_add, World.cell?_alloc_mark]
  match i, hi with
  | 0, _ => rfl
theorem t_conv1d (w : World) (a : Int) :
    (convert 41 9 (.slice (some ⟨w.heap.size, 0, none⟩) 1 1)).run Tryd.prog (w.alloc (.cells #[.int .u8 a] 5)).drew =
      .ok (.string (strOfNums [a])) (w.alloc (.cells #[.int .u8 a] 5)).drew := by
  refine run_convert_bytes_arg _ 41 5 Tryd.underlying41 Tryd.underlying5 _ _ _ _ [a] rfl ?_ _ Tryd.underlying9
  intro i hi
  show (w.alloc (.cells #[.int .u8 a] 5)).cell? _ = _
  rw [Nat.zero_add, World.cell?_alloc_mark]
  match i, hi with
  | 0, _ => rfl
/-- What the law reads off the four length bytes of a frame. -/
theorem len4 (T : ByteArray) (k m : Nat) (h : k + 3 < T.size) (hm : m ≤ 65536) (hk : k ≤ 1048576) (hd : (T.data.toList.drop k).take 4 = be4 m) :
    wrap64 ((k : Int) + wrap64 (wrap64 (wrap64 (wrap64 (8 + wrap64 (wrap64 ((T[k]'(by omega)).toNat : Int) * 16777216)) + wrap64 (wrap64 ((T[k + 1]'(by omega)).toNat : Int) * 65536)) + wrap64 (wrap64 ((T[k + 2]'(by omega)).toNat : Int) * 256)) + wrap64 ((T[k + 3]'h).toNat : Int))) = ((k + (8 + m) : Nat) : Int) := by
  have hl : T.data.toList.length = T.size := (Lib.size_eq T).symm
  have g : ∀ q (hq : q < 4) (hq2 : k + q < T.size), T[k + q] = (be4 m)[q]'(by rw [be4_len]; exact hq) := by
    intro q hq hq2
    have e : (be4 m)[q]'(by rw [be4_len]; exact hq) = ((T.data.toList.drop k).take 4)[q]'(by rw [List.length_take, List.length_drop]; omega) := by
      congr 1
      exact hd.symm
    rw [e, List.getElem_take, List.getElem_drop]
    rfl
  have g0 : (T[k]'(by omega)).toNat = m / 16777216 % 256 := by
    have := g 0 (by decide) (by omega)
    rw [show T[k]'(by omega) = T[k + 0]'(by omega) from rfl, this]
    exact UInt8.toNat_ofNat'
  have g1 : (T[k + 1]'(by omega)).toNat = m / 65536 % 256 := by
    rw [g 1 (by decide) (by omega)]
    exact UInt8.toNat_ofNat'
  have g2 : (T[k + 2]'(by omega)).toNat = m / 256 % 256 := by
    rw [g 2 (by decide) (by omega)]
    exact UInt8.toNat_ofNat'
  have g3 : (T[k + 3]'h).toNat = m % 256 := by
    rw [g 3 (by decide) (by omega)]
    exact UInt8.toNat_ofNat'
  rw [g0, g1, g2, g3]
  clear g g0 g1 g2 g3 hd hl
  obtain ⟨a, ha⟩ : ∃ a, a = m / 16777216 % 256 := ⟨_, rfl⟩
  obtain ⟨b, hb⟩ : ∃ a, a = m / 65536 % 256 := ⟨_, rfl⟩
  obtain ⟨c, hc⟩ : ∃ a, a = m / 256 % 256 := ⟨_, rfl⟩
  obtain ⟨d, hd⟩ : ∃ a, a = m % 256 := ⟨_, rfl⟩
  have hs : a * 16777216 + b * 65536 + c * 256 + d = m := by omega
  rw [← ha, ← hb, ← hc, ← hd]
  have q1 : a < 256 := by omega
  have q2 : b < 256 := by omega
  have q3 : c < 256 := by omega
  have q4 : d < 256 := by omega
  clear ha hb hc hd
  rw [IntWalk.wrap64_in (a : Int) ⟨by omega, by omega⟩, IntWalk.wrap64_in (b : Int) ⟨by omega, by omega⟩, IntWalk.wrap64_in (c : Int) ⟨by omega, by omega⟩, IntWalk.wrap64_in (d : Int) ⟨by omega, by omega⟩,
    IntWalk.wrap64_in ((a : Int) * 16777216) ⟨by omega, by omega⟩, IntWalk.wrap64_in ((b : Int) * 65536) ⟨by omega, by omega⟩, IntWalk.wrap64_in ((c : Int) * 256) ⟨by omega, by omega⟩,
    IntWalk.wrap64_in (8 + (a : Int) * 16777216) ⟨by omega, by omega⟩, IntWalk.wrap64_in (8 + (a : Int) * 16777216 + (b : Int) * 65536) ⟨by omega, by omega⟩,
    IntWalk.wrap64_in (8 + (a : Int) * 16777216 + (b : Int) * 65536 + (c : Int) * 256) ⟨by omega, by omega⟩,
    IntWalk.wrap64_in (8 + (a : Int) * 16777216 + (b : Int) * 65536 + (c : Int) * 256 + (d : Int)) ⟨by omega, by omega⟩,
    IntWalk.wrap64_in ((k : Int) + (8 + (a : Int) * 16777216 + (b : Int) * 65536 + (c : Int) * 256 + (d : Int))) ⟨by omega, by omega⟩]
  omega
def ByRel (H : List (List UInt8)) (i : Nat) (w : World) (v : Value) (wr : World) : Prop :=
  ∃ j : Nat, j ≤ H.length ∧ v = .int .i64 ((bytesOf (H.take j) : Nat) : Int) ∧ (∀ q, q < j → ¬ (bytesOf (H.take q) ≤ i ∧ i < bytesOf (H.take q) + 4)) ∧ Gr w wr

set_option maxRecDepth 100000 in
set_option maxHeartbeats 4000000 in
theorem byte6_law (v : Value) (L : List PR) (at_ to : Nat) (w : World) (hv : PV w v L) (hlen : L.length * 32 ≤ 140737488355328) (hmax : ∀ p ∈ L, p.key.size ≤ 281474976710656 ∧ p.val.size ≤ 281474976710656) (hat : at_ < 18446744073709551616) (hto : to < 256) (hH : Halves w) :
    Calls Tryd.prog 7 #[v, .int .u64 (at_ : Int), .int .u8 (to : Int)] w fun e w' => e = .returned (.bool true) ∧ Gr w w' := by
  have HV := Lib.hid hv
  obtain ⟨A, cc, rfl⟩ := pv_form hv
  have H0 := Lib.hid (awake6_any w hH)
  have HBL := Lib.hid (fun (v1 : Value) (w1 : World) (hv : PV w1 v1 L) (g : Gr w w1) => build_any v1 L w1 hv hmax (hH.gr g))
  have HH := Lib.hid hH
  obtain ⟨n, hn⟩ : ∃ n, n = L.length := ⟨_, rfl⟩
  rw [← hn] at HV hlen ⊢
  have HN := Lib.hid hn
  clear hmax hH hn hv
  by_cases hok : okTab L
  · rw [buildR_ok hok] at HBL
    obtain ⟨T, hT⟩ : ∃ T, T = bs (tabL L) := ⟨_, rfl⟩
    rw [← hT] at HBL
    obtain ⟨sz, hsz⟩ : ∃ q, q = T.size := ⟨_, rfl⟩
    have hszl : sz = bytesOf (allB L) + 8 := by rw [hsz, hT, bs_size, tabL_len]
    have hsz1 : sz ≤ 1048576 := by rw [hsz, hT]; exact tab_size hok
    have hsz2 : 20 ≤ sz := by
      have h1 := idx_len L
      have h2 : bytesOf (allB L) = bytesOf (bodiesK L (nCh L)) + (8 + (idxL L).length + 0) := by unfold allB; rw [bytesOf_append]; rfl
      omega
    have HT := Lib.hid hT
    have HSZ := Lib.hid hsz
    have HSL := Lib.hid hszl
    obtain ⟨i, hi⟩ : ∃ i, i = at_ % sz := ⟨_, rfl⟩
    have hil : i < sz := by rw [hi]; exact Nat.mod_lt _ (by omega)
    have hmod : (at_ : Int) % (sz : Int) = (i : Int) := by rw [hi]; rfl
    have hmodt : (at_ : Int).tmod (sz : Int) = (i : Int) := by rw [Int.tmod_eq_emod_of_nonneg (by omega)]; exact hmod
    have hs1 : ¬ (sz : Int) < 16 := by omega
    have hTs : (T.size : Int) = (sz : Int) := by rw [hsz]
    have hwu : IntKind.u64.wrap (sz : Int) = (sz : Int) := IntWalk.u64_in _ (by omega)
    have hwi : IntKind.i64.wrap (i : Int) = (i : Int) := IntWalk.i64_in _ (by omega)
    clear hT hsz hszl hi
    go_enter Tryd.func7, Tryd.ntmps7
    go_wp2_with fail
    refine H0.out.mono ?_
    rintro e w1 ⟨rfl, g1⟩
    have HV1 := Lib.hid (HV.out.gr g1)
    have HG1 := Lib.hid g1
    clear g1
    go_wp2_with (at_builtin; refine wpList_copy_pv rfl (.tmp 16) (.tmp 17) rfl rfl (.slice A n cc) L n HN.out rfl HV1.out hlen ?_)
    intro A2 c2 w2 hp2 g2
    have HP2 := Lib.hid hp2.pv
    have HG2 := Lib.hid (HG1.out.trans g2)
    clear hp2 g2
    go_wp2_with fail
    refine (HBL.out _ _ HP2.out HG2.out).mono ?_
    rintro e w3 ⟨rfl, g3⟩
    have HG3 := Lib.hid (HG2.out.trans g3)
    clear g3
    go_wp2_with fail
    obtain ⟨H, hHe⟩ : ∃ H, H = allB L := ⟨_, rfl⟩
    rw [← hHe] at HSL
    have HHE := Lib.hid hHe
    have HOK := Lib.hid hok
    have HS1 := Lib.hid (show sz ≤ 1048576 ∧ 20 ≤ sz ∧ i < sz from ⟨hsz1, hsz2, hil⟩)
    clear hHe hmod hmodt hs1 hwu hwi hok
    go_loopw [10] (fun v wr => ByRel H i w v wr) (fun v _ => sz - (intOf v).toNat)
    case atStart => exact ⟨0, Nat.zero_le _, rfl, fun q h => absurd h (Nat.not_lt_zero _), HG3.out⟩
    case round =>
      obtain ⟨j, hj, rfl, hall, hgr⟩ := hrel
      have HAL := Lib.hid hall
      have HGR := Lib.hid hgr
      clear hall hgr
      obtain ⟨k, hk⟩ : ∃ k, k = bytesOf (H.take j) := ⟨_, rfl⟩
      rw [← hk]
      have hw8 : IntKind.i64.wrap ((sz : Int) - 8) = (sz : Int) - 8 := IntWalk.i64_in _ (by omega)
      by_cases hlt : j < H.length
      · have hbn := bytes_take_succ hlt
        rw [← hk] at hbn
        have hbl4 := body_len L H[j] (by rw [← HHE.out]; exact List.getElem_mem hlt)
        have hb64 := allB_ok HOK.out H[j] (by rw [← HHE.out]; exact List.getElem_mem hlt)
        have htot : bytesOf (H.take (j + 1)) ≤ bytesOf H := by
          have h3 : bytesOf H = bytesOf (H.take (j + 1)) + bytesOf (H.drop (j + 1)) := by rw [← bytesOf_append, List.take_append_drop]
          omega
        have hkz : k + 20 ≤ sz := by have := HSL.out; omega
        have hfr := frames_at hlt
        obtain ⟨m, hm⟩ : ∃ m, m = H[j].length := ⟨_, rfl⟩
        rw [← hm] at hbn hbl4 hb64
        have hw9 : IntKind.i64.wrap ((k : Int) + 8) = (k : Int) + 8 := IntWalk.i64_in _ (by omega)
        have hc1 : (k : Int) + 8 < (sz : Int) - 8 := by omega
        have hw4 : IntKind.i64.wrap ((k : Int) + 4) = (k : Int) + 4 := IntWalk.i64_in _ (by omega)
        have HK := Lib.hid hk
        have HBN := Lib.hid hbn
        have HM := Lib.hid hm
        by_cases hin : k ≤ i ∧ i < k + 4
        · obtain ⟨i1, i2⟩ := hin
          have t1 : (k : Int) ≤ (i : Int) := by omega
          have t2 : (i : Int) < (k : Int) + 4 := by omega
          clear hk hbn hm hfr htot
          go_wp2_with fail
          go_ret
          exact ⟨rfl, HGR.out⟩
        · have hd : (T.data.toList.drop k).take 4 = be4 m := by
            have e1 : T.data.toList = tabL L := by rw [HT.out]; rfl
            have e2 : tabL L = joinL H ++ be8 (8 + (idxL L).length) := by rw [HHE.out]; rfl
            rw [e1, e2, hfr, List.append_assoc, List.drop_left' (by rw [joinL_len, ← hk])]
            rw [hm]
            rfl
          have hk3 : k + 3 < T.size := by rw [← HSZ.out]; omega
          have HL4 := Lib.hid (len4 T k m hk3 hb64 (by omega) hd)
          clear hk hbn hm hfr htot hd
          have x0 : (0 : Int) ≤ (k : Int) := by omega
          have x1 : (0 : Int) ≤ (k : Int) + 1 := by omega
          have x2 : (0 : Int) ≤ (k : Int) + 2 := by omega
          have x3 : (0 : Int) ≤ (k : Int) + 3 := by omega
          have y0 : (k : Int) < (sz : Int) := by omega
          have y1 : (k : Int) + 1 < (sz : Int) := by omega
          have y2 : (k : Int) + 2 < (sz : Int) := by omega
          have y3 : (k : Int) + 3 < (sz : Int) := by omega
          have w1' : IntKind.i64.wrap ((k : Int) + 1) = (k : Int) + 1 := IntWalk.i64_in _ (by omega)
          have w2' : IntKind.i64.wrap ((k : Int) + 2) = (k : Int) + 2 := IntWalk.i64_in _ (by omega)
          have w3' : IntKind.i64.wrap ((k : Int) + 3) = (k : Int) + 3 := IntWalk.i64_in _ (by omega)
          have n1 : ((k : Int) + 1).toNat = k + 1 := by omega
          have n2 : ((k : Int) + 2).toNat = k + 2 := by omega
          have n3 : ((k : Int) + 3).toNat = k + 3 := by omega
          by_cases hik : k ≤ i
          · have t1 : (k : Int) ≤ (i : Int) := by omega
            have t2 : ¬ (i : Int) < (k : Int) + 4 := by omega
            have HAL2 : Hid (∀ q, q < j + 1 → ¬ (bytesOf (H.take q) ≤ i ∧ i < bytesOf (H.take q) + 4)) := Lib.hid (fun q hq => by
              rcases Nat.lt_or_ge q j with e | e
              · exact HAL.out q e
              · obtain rfl : q = j := by omega
                rw [← HK.out]
                exact hin)
            clear hin hik
            go_wp2_with fail
            go_quiet (fail)
            rw [HL4.out]
            go_wp2
            go_roundw
            case rel => exact ⟨j + 1, hlt, by rw [HBN.out], HAL2.out, HGR.out.drewN _⟩
            case measure => simp [intOf]; omega
          · have t1 : ¬ (k : Int) ≤ (i : Int) := by omega
            have HAL2 : Hid (∀ q, q < j + 1 → ¬ (bytesOf (H.take q) ≤ i ∧ i < bytesOf (H.take q) + 4)) := Lib.hid (fun q hq => by
              rcases Nat.lt_or_ge q j with e | e
              · exact HAL.out q e
              · obtain rfl : q = j := by omega
                rw [← HK.out]
                exact hin)
            clear hin hik
            go_wp2_with fail
            go_quiet (fail)
            rw [HL4.out]
            go_wp2
            go_roundw
            case rel => exact ⟨j + 1, hlt, by rw [HBN.out], HAL2.out, HGR.out.drewN _⟩
            case measure => simp [intOf]; omega
      · have hje : j = H.length := by omega
        have hks : k + 8 = sz := by
          have h1 := HSL.out
          rw [hk, hje, List.take_length]
          exact h1.symm
        have HNO : Hid (∀ q, q < H.length → ¬ (bytesOf (H.take q) ≤ i ∧ i < bytesOf (H.take q) + 4)) := Lib.hid (by rw [← hje]; exact HAL.out)
        have hw9 : IntKind.i64.wrap ((k : Int) + 8) = (k : Int) + 8 := IntWalk.i64_in _ (by omega)
        have hc1 : ¬ (k : Int) + 8 < (sz : Int) - 8 := by omega
        have z0 : (0 : Int) ≤ (i : Int) := by omega
        have z1 : (i : Int) < (sz : Int) := by omega
        have hiT : i < T.size := by rw [← HSZ.out]; exact hil
        clear hk hje hlt hks
        go_wp2_with fail
        · go_ret
          exact ⟨rfl, HGR.out⟩
        · have hne : ((T[i].toNat : Int) == (to : Int)) = false := by assumption
          have HNE := Lib.hid hne
          clear hne
          have hcv := fun (w : World) => t_conv1 w (to : Int)
          have hcd := fun (w : World) => t_conv1d w (to : Int)
          have hw5 : IntKind.i64.wrap ((i : Int) + 1) = (i : Int) + 1 := IntWalk.i64_in _ (by omega)
          have ht5 : ((i : Int) + 1).toNat = i + 1 := by omega
          have hp5 : (0 : Int) ≤ (i : Int) + 1 := by omega
          have hq4 : (i : Int) ≤ (sz : Int) := by omega
          have hq5 : (i : Int) + 1 ≤ (sz : Int) := by omega
          have hz1 : (T.extract 0 i).size = i := by rw [ByteArray.size_extract]; omega
          have hz2 : (strOfNums [(to : Int)]).size = 1 := by rw [strOfNums_size]; rfl
          have hz12 : (T.extract 0 i ++ strOfNums [(to : Int)]).size = i + 1 := by rw [append_size, hz1, hz2]
          have hz3 : (T.extract (i + 1) T.size).size = sz - (i + 1) := by rw [ByteArray.size_extract, ← HSZ.out]; omega
          have hX : (T.extract 0 i ++ strOfNums [(to : Int)] ++ T.extract (i + 1) T.size).data.toList = (tabL L).set i (UInt8.ofNat to) := by
            have e1 : T.data.toList = tabL L := by rw [HT.out]; rfl
            have hl : T.data.toList.length = T.size := (Lib.size_eq T).symm
            have h1 := (split_at T.data.toList i (by rw [hl]; exact hiT) (UInt8.ofNat to)).2
            rw [append_data, append_data, Lib.extract_data, Lib.extract_data, strOfNums_data, List.drop_zero, Nat.sub_zero, List.take_of_length_le (l := T.data.toList.drop (i + 1)) (by rw [List.length_drop, hl]; omega), List.append_assoc, ← e1]
            refine Eq.trans ?_ h1.symm
            rfl
          have hnone : allR ((tabL L).set i (UInt8.ofNat to)) = none := by
            have e1 : T.data.toList = tabL L := by rw [HT.out]; rfl
            have hl : T.data.toList.length = T.size := (Lib.size_eq T).symm
            have hi2 : i < (tabL L).length := by rw [← e1, hl]; exact hiT
            refine byte_none HOK.out hi2 (by rw [← HHE.out]; exact HNO.out) ?_
            intro h
            have hne := HNE.out
            rw [beq_eq_false_iff_ne] at hne
            apply hne
            have h2 : T[i] = (tabL L)[i] := by
              have h3 : T[i] = T.data.toList[i]'(by rw [hl]; exact hiT) := rfl
              rw [h3]
              congr 1
            rw [h2, h, UInt8.toNat_ofNat', Nat.mod_eq_of_lt (by omega)]
          have hXs : (T.extract 0 i ++ strOfNums [(to : Int)] ++ T.extract (i + 1) T.size).size ≤ maxLen := by
            rw [append_size, hz12, hz3]
            unfold maxLen
            omega
          have HALL := Lib.hid (fun (w3 : World) (g : Gr w w3) => by
            have := all_any _ hXs w3 (HH.out.gr g)
            rw [hX, hnone] at this
            exact this)
          clear hX hXs hnone
          have hg2 := Lib.hid ((HGR.out.alloc (.cells #[.int .u8 (to : Int)] 5)).drew)
          have t8 : T.size = sz := HSZ.out.symm
          have hz5 : i + 1 + (sz - (i + 1)) ≤ 9223372036854775807 := by omega
          rw [t8] at HALL
          go_region_with ((go_at_call 13; refine (HALL.out _ ?_).mono ?_; exact hg2.out; rintro e w4 ⟨rfl, g4⟩))
          go_wp2
          go_ret
          exact ⟨rfl, hg2.out.trans g4⟩
  · obtain ⟨er, hor, hb⟩ := bad_nat hok
    rw [hb] at HBL
    clear hok hb
    rcases hor with rfl | rfl
    all_goals
      go_enter Tryd.func7, Tryd.ntmps7
      go_wp2_with fail
      refine H0.out.mono ?_
      rintro e w1 ⟨rfl, g1⟩
      have HV1 := Lib.hid (HV.out.gr g1)
      have HG1 := Lib.hid g1
      clear g1
      go_wp2_with (at_builtin; refine wpList_copy_pv rfl (.tmp 16) (.tmp 17) rfl rfl (.slice A n cc) L n HN.out rfl HV1.out hlen ?_)
      intro A2 c2 w2 hp2 g2
      have HP2 := Lib.hid hp2.pv
      have HG2 := Lib.hid (HG1.out.trans g2)
      clear hp2 g2
      go_wp2_with fail
      refine (HBL.out _ _ HP2.out HG2.out).mono ?_
      rintro e w3 ⟨rfl, g3⟩
      have HG3 := Lib.hid (HG2.out.trans g3)
      clear g3
      go_wp2_with fail
      go_ret
      exact ⟨rfl, HG3.out⟩
end Go.Proofs.YtnihnkcmmnlaaaaDoor
