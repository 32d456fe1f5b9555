/- CodeTorn: the law's walk. -/
import Derived.Test.YthmnffiiondggaaDoorFrameMath
namespace Go.Proofs.YthmnffiiondggaaDoor
open Go.RowKit

theorem bytesOf_take_succ (H : List (List UInt8)) (i : Nat) (h : i < H.length) : bytesOf (H.take (i + 1)) = bytesOf (H.take i) + (8 + H[i].length) := by
  rw [List.take_succ_eq_append_getElem h, bytesOf_append]; rfl
theorem bytesOf_take_le (H : List (List UInt8)) (i : Nat) : bytesOf (H.take i) ≤ bytesOf H := by
  have := bytesOf_append (H.take i) (H.drop i)
  rw [List.take_append_drop] at this
  omega

set_option maxRecDepth 100000 in
set_option maxHeartbeats 1000000 in
theorem torn_law (w : World) (v : Value) (L : List ByteArray) (hv : SV w v L) (hL : (L.length + 2) * 16 ≤ 140737488355328) (_ : ∀ s ∈ L, s.size ≤ 281474976710656) (at_ : Nat) (hat : at_ < 18446744073709551616) (hH : Halves w) :
    Calls Tryd.prog 9 #[v, .int .u64 (at_ : Int)] w fun e w' => e = .returned (.bool true) ∧ Gr w w' := by
  have h1 := awake_any w hH
  have hj0 := joinB_size2 L
  have hll : L.length ≤ 8796093022206 := by omega
  have hj : (joinB L).size ≤ 65544 * 8796093022206 := by omega
  clear hj0
  have H1 := Lib.hid h1
  have HH := Lib.hid hH
  have HV := Lib.hid hv
  have HD := Lib.hid (joinB_data L)
  have HLen := Lib.hid (joinB_len L)
  have hfl : (framed L).length ≤ L.length := List.length_filter_le _ _
  obtain ⟨J, hJ⟩ : ∃ J, J = joinB L := ⟨_, rfl⟩
  have h2 := fun (w1 : World) (g : Gr w w1) => frames_any v L hL w1 (hv.gr g) (hH.gr g)
  have H2 := Lib.hid h2
  rw [← hJ] at hj HD HLen
  have HJ := Lib.hid hJ
  clear h1 h2 hJ hH hv
  obtain ⟨A0, c0, rfl, _⟩ := HV.out
  go_enter Tryd.func9, Tryd.ntmps9
  go_wp2_with fail
  refine H1.out.mono ?_
  rintro e w1 ⟨rfl, g1⟩
  go_wp2_with fail
  refine (H2.out _ g1).mono ?_
  rintro e w2 ⟨v2, rfl, hown, g2⟩
  rw [← HJ.out]
  have hsv := SV.of_own hown
  clear hown
  obtain ⟨A, c, rfl, l1, l2, l3⟩ := hsv
  have HA := Lib.hid l3
  have hAn := Lib.hid l2.2
  have l2 := l2.1
  unfold maxLen at l2
  clear l3
  obtain ⟨n, hn⟩ : ∃ n, n = (framed L).length := ⟨_, rfl⟩
  rw [← hn] at l1 hfl ⊢
  have HN := Lib.hid hn
  clear hn
  obtain ⟨k, hk⟩ : ∃ k, k = at_ % (J.size + 1) := ⟨_, rfl⟩
  have hkl : k ≤ J.size := by have := Nat.mod_lt at_ (show 0 < J.size + 1 by omega); omega
  have hw : wrap64 ((at_ : Int) % ((J.size : Int) + 1)) = (k : Int) := by
    rw [show (at_ : Int) % ((J.size : Int) + 1) = (k : Int) from by rw [hk]; rfl]
    exact IntWalk.wrap64_in _ ⟨by omega, by omega⟩
  have hjn : (J.size : Int) + 1 ≤ 9223372036854775807 := by omega
  have hbl := bodies_len L
  rw [← HN.out] at hbl
  have HBL := Lib.hid hbl
  clear hk hbl
  go_wp2_with fail
  rw [hw]
  clear hat hw hjn hll
  have hc63 : c ≤ 9223372036854775807 := l2
  clear l2
  go_loop [8, 9] (fun e i => ∃ j : Nat, j ≤ n ∧ i = .int .i64 j ∧ e = .int .i64 (bytesOf ((bodies L).take j) : Nat) ∧ bytesOf ((bodies L).take j) ≤ k) (fun _ i => n - (intOf i).toNat)
  case atStart => exact ⟨0, Nat.zero_le _, rfl, rfl, Nat.zero_le _⟩
  case round =>
    obtain ⟨j, hjl, rfl, rfl, hjk⟩ := hrel
    obtain ⟨E, hE⟩ : ∃ E, E = bytesOf ((bodies L).take j) := ⟨_, rfl⟩
    rw [← hE] at hjk
    rw [← hE]
    by_cases hlt : j < n
    · obtain ⟨b, off, rfl, hca⟩ := HA.out j (by rw [← HN.out]; exact hlt)
      obtain ⟨x, hx⟩ : ∃ x, x = (framed L)[j]'(by rw [← HN.out]; exact hlt) := ⟨_, rfl⟩
      rw [← hx] at hca
      have hsucc : bytesOf ((bodies L).take (j + 1)) = E + (8 + x.size) := by
        rw [bytesOf_take_succ (bodies L) j (by rw [HBL.out]; exact hlt), ← hE, hx, Lib.size_eq]
        simp only [bodies, List.getElem_map]
      have hxl : x.size ≤ 65536 := of_decide_eq_true (List.mem_filter.1 (by rw [hx]; exact List.getElem_mem _ : x ∈ L.filter okS)).2
      by_cases hle : E + (8 + x.size) ≤ k
      · have HS := Lib.hid hsucc
        clear hsucc hE hx
        go_wp2_with fail
        go_round
        case rel => exact ⟨j + 1, by omega, by go_num, by rw [HS.out]; go_num, by rw [HS.out]; omega⟩
        case measure => simp [intOf]; omega
      · 
        have hscan := scan_torn (bodies L) j k (bodies_ok L) (by rw [bodies_len, ← HN.out]; omega) (by omega) (fun _ => by rw [hsucc]; omega) (by rw [← HLen.out]; omega)
        have hcb : ((bodies L).take j).length ≤ j := List.length_take_le _ _
        have hbt := bytesOf_take_le (bodies L) j
        rw [← HLen.out] at hbt
        have hs1 : (J.extract 0 k).data.toList = (joinL (bodies L)).take k := by rw [Lib.extract_data, HD.out, List.drop_zero, Nat.sub_zero]
        have hS := fun (w3 : World) (hh : Halves w3) => scan_any (J.extract 0 k) (by rw [ByteArray.size_extract]; omega) (by rw [hs1, hscan]; omega) w3 hh
        rw [hs1, hscan, List.map_take, bs_bodies, ← hE] at hS
        have HS := Lib.hid hS
        have hgt : k < E + (8 + x.size) := by omega
        clear hS hs1 hscan hE hsucc hx hcb hbt hle
        go_wp2_with fail
        refine (HS.out _ (HH.out.gr (Gr.trans g1 g2))).mono ?_
        rintro e w3 ⟨v3, rfl, s3, g3⟩
        have S3 := Lib.hid (SV.of_own s3)
        clear s3
        go_wp2_with fail
        refine (same_any v3 (.slice _ j c) ((framed L).take j) ((framed L).take j) _ S3.out ?_).mono ?_
        · refine ⟨_, c, by rw [List.length_take, ← HN.out, Nat.min_eq_left hjl], by rw [List.length_take]; omega, ⟨by unfold maxLen; exact hc63, hAn.out⟩, fun i hi => ?_⟩
          rw [List.length_take] at hi
          obtain ⟨b, off, ha, hc⟩ := HA.out i (by omega)
          exact ⟨b, off, ha, by rw [List.getElem_take]; exact g3.cell hc⟩
        rw [decide_eq_true rfl]
        rintro e w6 ⟨rfl, nq, rfl⟩
        go_wp2_with fail
        go_ret
        exact ⟨rfl, ((Gr.trans g1 g2).trans g3).drewN _⟩
    · have hjn2 : j = n := by omega
      subst hjn2
      have hscan := scan_torn (bodies L) j k (bodies_ok L) (by rw [bodies_len, ← HN.out]; omega) (by omega) (fun h => absurd h (by rw [HBL.out]; omega)) (by rw [← HLen.out]; omega)
      have hcb : ((bodies L).take j).length ≤ j := List.length_take_le _ _
      have hbt := bytesOf_take_le (bodies L) j
      rw [← HLen.out] at hbt
      have hs1 : (J.extract 0 k).data.toList = (joinL (bodies L)).take k := by rw [Lib.extract_data, HD.out, List.drop_zero, Nat.sub_zero]
      have hS := fun (w3 : World) (hh : Halves w3) => scan_any (J.extract 0 k) (by rw [ByteArray.size_extract]; omega) (by rw [hs1, hscan]; omega) w3 hh
      rw [hs1, hscan, List.map_take, bs_bodies, ← hE] at hS
      have HS := Lib.hid hS
      clear hS hs1 hscan hE hcb hbt hlt
      go_wp2_with fail
      refine (HS.out _ (HH.out.gr (Gr.trans g1 g2))).mono ?_
      rintro e w3 ⟨v3, rfl, s3, g3⟩
      have S3 := Lib.hid (SV.of_own s3)
      clear s3
      go_wp2_with fail
      refine (same_any v3 (.slice A j c) ((framed L).take j) ((framed L).take j) _ S3.out ?_).mono ?_
      · refine ⟨A, c, by rw [List.length_take, ← HN.out, Nat.min_eq_left hjl], by rw [List.length_take]; omega, ⟨by unfold maxLen; exact hc63, hAn.out⟩, fun i hi => ?_⟩
        rw [List.length_take] at hi
        obtain ⟨b, off, ha, hc⟩ := HA.out i (by omega)
        exact ⟨b, off, ha, by rw [List.getElem_take]; exact g3.cell hc⟩
      rw [decide_eq_true rfl]
      rintro e w6 ⟨rfl, nq, rfl⟩
      go_wp2_with fail
      go_ret
      exact ⟨rfl, ((Gr.trans g1 g2).trans g3).drewN _⟩
end Go.Proofs.YthmnffiiondggaaDoor
