/- Walks: Pack. -/
import Derived.Test.YteagmdnpajalgaaPackSpec
namespace Go.Proofs.Yteagmdnpajalgaa
open Go.RowKit

theorem builder_zero (w : World) : (w.alloc (.cells #[.pointer none, .slice none 0 0] 59)).heap[w.heap.size]? = some (.cells #[.pointer none, .slice none 0 0] 59 (0, 0)) := by
  show (w.heap.push _)[w.heap.size]? = _
  simp
def PackRel (L : List ByteArray) (w : World) (b : Nat) (i : Value) (wr : World) : Prop :=
  ∃ k : Nat, k ≤ L.length ∧ i = .int .i64 k ∧ Lib.BuilderAt 59 5 w.heap.size b (.pointer (some ⟨b, 0, none⟩)) (Lib.byteCells (be4 L.length ++ flat (L.take k))) wr ∧ Gr w wr
theorem strCells_bytes (s : ByteArray) : Lib.strCells s = Lib.byteCells s.data.toList := rfl
theorem strCells_bs (l : List UInt8) : Lib.strCells (bs l) = Lib.byteCells l := rfl

set_option maxRecDepth 100000 in
set_option maxHeartbeats 1000000 in
theorem pack_any (v : Value) (L : List ByteArray) (w : World) (hv : SV w v L) (hmax : ∀ s ∈ L, s.size ≤ maxLen) :
    Calls Try.prog 25 #[v] w fun e w' => e = .returned (packVal L) ∧ Gr w w' := by
  obtain ⟨A, c, rfl, l1, l2, l3⟩ := hv
  have HA := Lib.hid l3
  have HM := Lib.hid hmax
  clear l3 hmax
  obtain ⟨n, hn⟩ : ∃ n, n = L.length := ⟨_, rfl⟩
  rw [← hn] at l1 ⊢
  have HN := Lib.hid hn
  have hc63 : c ≤ 9223372036854775807 := l2.1
  clear hn l2
  by_cases hbig : 4096 < n
  · have HP := Lib.hid (packVal_no (L := L) (fun h => by have := h.1; rw [← HN.out] at this; omega))
    go_enter Try.func25, Try.ntmps25
    go_wp2_with fail
    go_ret2
    exact ⟨by rw [HP.out]; rfl, Gr.refl _⟩
  go_enter Try.func25, Try.ntmps25
  go_wp2_with fail
  go_loop [4, 15] (fun s i => ∃ k : Nat, k ≤ n ∧ i = .int .i64 k ∧ s = .int .i64 ((4 + tot (L.take k) : Nat) : Int) ∧ ∀ x ∈ L.take k, x.size ≤ 65536) (fun _ i => n - (intOf i).toNat)
  case atStart => exact ⟨0, Nat.zero_le _, rfl, rfl, fun x hx => by simp at hx⟩
  case round =>
    obtain ⟨k, hk, rfl, rfl, hall⟩ := hrel
    have htb := tot_bound (L.take k) 65536 hall
    have htl : (L.take k).length ≤ k := List.length_take_le _ _
    obtain ⟨t, ht⟩ : ∃ t, t = tot (L.take k) := ⟨_, rfl⟩
    rw [← ht] at htb ⊢
    have htb2 : t ≤ 65540 * 4096 := by
      refine Nat.le_trans htb (Nat.mul_le_mul (by omega) (by omega))
    have HALL := Lib.hid hall
    clear hall htb htl
    have eT : ((4 + t : Nat) : Int) = 4 + (t : Int) := by omega
    rw [eT]
    clear eT
    by_cases hlt : k < n
    · have hkL : k < L.length := by rw [← HN.out]; exact hlt
      obtain ⟨b, off, rfl, hca⟩ := HA.out k hkL
      have hts := tot_take_succ L k hkL
      obtain ⟨x, hx⟩ : ∃ x, x = L[k] := ⟨_, rfl⟩
      have hxm := HM.out x (by rw [hx]; exact List.getElem_mem hkL)
      rw [← hx] at hca hts
      rw [← ht] at hts
      have hxm2 : x.size ≤ 9223372036854775807 := hxm
      clear hxm
      by_cases hok : x.size ≤ 65536
      · have hall2 : ∀ y ∈ L.take (k + 1), y.size ≤ 65536 := by
          intro y hy
          rw [List.take_succ_eq_append_getElem hkL, ← hx] at hy
          rcases List.mem_append.1 hy with h | h
          · exact HALL.out y h
          · rw [List.mem_singleton.1 h]; exact hok
        have HS := Lib.hid hts
        have HA2 := Lib.hid hall2
        clear hts hall2 hx ht
        go_wp2_with fail
        go_round
        case rel => exact ⟨k + 1, by omega, by go_num, by rw [HS.out]; go_num, HA2.out⟩
        case measure => simp [intOf]; omega
      · have HP := Lib.hid (packVal_no (L := L) (fun h => hok (h.2.1 x (by rw [hx]; exact List.getElem_mem hkL))))
        clear hts hx ht
        go_wp2_with fail
        go_ret2
        exact ⟨by rw [HP.out]; rfl, Gr.refl _⟩
    · have hkn : L.take k = L := List.take_of_length_le (by rw [← HN.out]; omega)
      rw [hkn] at HALL ht
      by_cases hfit : 1048576 < 4 + t
      · have HP := Lib.hid (packVal_no (L := L) (fun h => by have := h.2.2; rw [← ht] at this; omega))
        clear hkn ht
        go_wp2_with fail
        go_ret2
        exact ⟨by rw [HP.out]; rfl, Gr.refl _⟩
      · have hok : okPack L := ⟨by rw [← HN.out]; omega, HALL.out, by rw [← ht]; omega⟩
        have HP := Lib.hid (packVal_yes hok)
        have HT := Lib.hid ht
        clear hkn ht
        have hg := builder_grow w.heap.size w.heap.size (4 + t) (w.alloc (.cells #[.pointer none, .slice none 0 0] 59)) (Nat.le_refl _) (builder_zero w) (by simp) (by omega)
        rw [show ((4 + t : Nat) : Int) = 4 + (t : Int) from by omega] at hg
        have HG := Lib.hid hg
        clear hg
        have hn6 : n ≤ 4096 := by omega
        have ht6 : t ≤ 1048572 := by omega
        clear hbig hfit htb2
        go_wp2_with fail
        refine HG.out.mono ?_
        rintro e w1 ⟨rfl, hb1, g1⟩
        have G1 : Gr w w1 := ((Below.refl _ w).alloc (Nat.le_refl _) _).trans g1
        clear g1
        go_wp2_with fail
        refine (short_at (n : Int) n rfl (by omega) _).mono ?_
        rintro e w2 ⟨rfl, g2⟩
        have hb2 := BuilderAt.gr hb1 g2
        have G2 : Gr w w2 := G1.trans g2
        have z4 : (bs (be4 n)).size = 4 := be4_size n
        go_wp2_with fail
        refine (builder_write w.heap.size w.heap.size [] (bs (be4 n)) w2 (Or.inr hb2) (by rw [z4]; simp) G2.size).mono ?_
        rintro e w3 ⟨rfl, hb3, g3⟩
        have G3 : Gr w w3 := Below.trans G2 g3
        rw [List.nil_append, strCells_bs] at hb3
        have HB3 := Lib.hid hb3
        clear hb1 hb2 hb3 g2 g3 G1 G2 z4
        go_wp2_with fail
        go_loopw [39] (fun i wr => PackRel L w w.heap.size i wr) (fun i _ => n - (intOf i).toNat)
        case atStart => exact ⟨0, Nat.zero_le _, rfl, by rw [List.take_zero, ← HN.out]; show Lib.BuilderAt _ _ _ _ _ (Lib.byteCells (be4 n ++ [])) _; rw [List.append_nil]; exact HB3.out, G3⟩
        case round =>
          obtain ⟨j, hj, rfl, hbr, hgr⟩ := hrel
          rw [← HN.out] at hj hbr
          by_cases hjl : j < n
          · have hjL : j < L.length := by rw [← HN.out]; exact hjl
            obtain ⟨b, off, rfl, hca⟩ := HA.out j hjL
            have hca := hgr.cell hca
            have hft := flat_take_succ L j hjL
            have hlen : (be4 n ++ flat (L.take j)).length ≤ 4 + t := by
              rw [List.length_append, be4_length, flat_length, HT.out]
              have := tot_take_le L j
              omega
            obtain ⟨x, hx⟩ : ∃ x, x = L[j] := ⟨_, rfl⟩
            have hxm : x.size ≤ 65536 := HALL.out x (by rw [hx]; exact List.getElem_mem hjL)
            rw [← hx] at hca hft
            have HBR := Lib.hid hbr
            have HFT := Lib.hid hft
            clear hft hx hbr
            go_wp2_with fail
            refine (short_at (x.size : Int) x.size rfl (by omega) _).mono ?_
            rintro e w4 ⟨rfl, g4⟩
            have hb4 := BuilderAt.gr HBR.out g4
            have G4 : Gr w w4 := hgr.trans g4
            have hca4 := Gr.cell g4 hca
            clear hca
            have z4 : (bs (be4 x.size)).size = 4 := be4_size _
            go_wp2_with fail
            refine (builder_write w.heap.size w.heap.size _ (bs (be4 x.size)) w4 (Or.inr hb4) (by rw [z4, Lib.byteCells_length]; omega) G4.size).mono ?_
            rintro e w5 ⟨rfl, hb5, g5⟩
            have G5 : Gr w w5 := Below.trans G4 g5
            rw [strCells_bs, ← Lib.byteCells_append] at hb5
            go_wp2_with fail
            refine (builder_write w.heap.size w.heap.size _ x w5 (Or.inr hb5) (by rw [Lib.byteCells_length, List.length_append, be4_length]; omega) G5.size).mono ?_
            rintro e w6 ⟨rfl, hb6, g6⟩
            have G6 : Gr w w6 := Below.trans G5 g6
            rw [strCells_bytes, ← Lib.byteCells_append, List.append_assoc, List.append_assoc] at hb6
            have HB6 := Lib.hid hb6
            clear hb4 hb5 hb6 hca4 z4 g4 g5 g6 G4 G5
            go_wp2
            go_roundw
            case rel => exact ⟨j + 1, by rw [← HN.out]; omega, by go_num, by rw [HFT.out, ← HN.out]; exact HB6.out, G6⟩
            case measure => simp [intOf]; omega
          · have hjn : L.take j = L := List.take_of_length_le (by rw [← HN.out]; omega)
            rw [hjn] at hbr
            have hstr := builder_string w.heap.size w.heap.size (be4 n ++ flat L) wr (Or.inr hbr) hgr.size
            have HS := Lib.hid hstr
            clear hjn hbr hstr
            go_wp2_with fail
            refine HS.out.mono ?_
            rintro e w7 ⟨rfl, g7⟩
            go_wp2_with fail
            go_ret2
            exact ⟨by rw [HP.out]; unfold packL; rw [← HN.out]; rfl, Below.trans hgr g7⟩
end Go.Proofs.Yteagmdnpajalgaa
