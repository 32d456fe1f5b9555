/- Walks: the document's Pack. -/
import Derived.Test.YtnihnkcmmnlaaaaDoorPack
import Derived.Lib.AppendStr
namespace Go.Proofs.YtnihnkcmmnlaaaaDoor
open Go.RowKit

theorem infoByte : (Tryd.prog.info? 5).map (fun i => (i.zero, i.size, i.bytes)) = some (some (.int .u8 0), 1, 1) := by kernel_rfl
/-- The letters of a row of bytes of the call's own, as a string. -/
theorem own_string {w : World} {base g cap : Nat} {l : List UInt8} (h : w.ownsRow base 5 1 (.slice (some ⟨g, 0, none⟩) l.length cap) l.length (Lib.byteCells l)) :
    (convert 41 9 (.slice (some ⟨g, 0, none⟩) l.length cap)).run Tryd.prog w = .ok (.string (bs l)) w := by
  refine run_convert_bytes_back w 41 9 5 ⟨g, 0, none⟩ cap l Tryd.underlying41 Tryd.underlying5 Tryd.underlying9 ?_
  intro j hj
  refine h.cells (g := g) rfl j _ ?_
  simp [Lib.byteCells, hj]
def RPackRel (L : List ByteArray) (w : World) (v i : Value) (wr : World) : Prop :=
  ∃ k : Nat, k ≤ L.length ∧ i = .int .i64 k ∧ wr.ownsRow w.heap.size 5 1 v (4 + tot (L.take k)) (Lib.byteCells (be4 L.length ++ flat (L.take k))) ∧ Gr w wr

set_option maxRecDepth 100000 in
set_option maxHeartbeats 1000000 in
theorem rpack_any (v : Value) (L : List ByteArray) (w : World) (hv : SV w v L) (hmax : ∀ s ∈ L, s.size ≤ 281474976710656) :
    Calls Tryd.prog 26 #[v] w fun e w' => e = .returned (packVal L) ∧ Gr w w' := by
  obtain ⟨i0, hi, hz0, hz1, hz2⟩ := info_parts infoByte
  have HI := Lib.hid (And.intro hi (And.intro hz0 (And.intro hz1 hz2)))
  clear hi hz0 hz1 hz2
  obtain ⟨A, c, rfl, l1, l2, l3⟩ := hv
  have HA := Lib.hid l3
  have HM := Lib.hid hmax
  clear l3 hmax
  obtain ⟨n, hn⟩ : ∃ n, n = L.length := ⟨_, rfl⟩
  rw [← hn] at l1 ⊢
  have HN := Lib.hid hn
  have hc63 : c ≤ 9223372036854775807 := l2.1
  clear hn l2
  by_cases hbig : 4096 < n
  · have HP := Lib.hid (packVal_no (L := L) (fun h => by have := h.1; rw [← HN.out] at this; omega))
    go_enter Tryd.func26, Tryd.ntmps26
    go_wp2_with fail
    go_ret2
    exact ⟨by rw [HP.out]; rfl, Gr.refl _⟩
  go_enter Tryd.func26, Tryd.ntmps26
  go_wp2_with fail
  go_loop [4, 5] (fun s i => ∃ k : Nat, k ≤ n ∧ i = .int .i64 k ∧ s = .int .i64 ((4 + tot (L.take k) : Nat) : Int) ∧ (∀ x ∈ L.take k, x.size ≤ 65536) ∧ 4 + tot (L.take k) ≤ 1048576) (fun _ i => n - (intOf i).toNat)
  case atStart => exact ⟨0, Nat.zero_le _, rfl, rfl, fun x hx => by simp at hx, by simp [tot]⟩
  case round =>
    obtain ⟨k, hk, rfl, rfl, hall, hsum⟩ := hrel
    obtain ⟨t, ht⟩ : ∃ t, t = tot (L.take k) := ⟨_, rfl⟩
    rw [← ht] at hsum ⊢
    have HALL := Lib.hid hall
    clear hall
    have eT : ((4 + t : Nat) : Int) = 4 + (t : Int) := by omega
    rw [eT]
    clear eT
    by_cases hlt : k < n
    · have hkL : k < L.length := by rw [← HN.out]; exact hlt
      obtain ⟨b, off, rfl, hca⟩ := HA.out k hkL
      have hts := tot_take_succ L k hkL
      have htl := tot_take_le L (k + 1)
      obtain ⟨x, hx⟩ : ∃ x, x = L[k] := ⟨_, rfl⟩
      have hxm := HM.out x (by rw [hx]; exact List.getElem_mem hkL)
      rw [← hx] at hca hts
      rw [← ht] at hts
      rw [hts] at htl
      by_cases hok : x.size ≤ 65536
      · have hall2 : ∀ y ∈ L.take (k + 1), y.size ≤ 65536 := by
          intro y hy
          rw [List.take_succ_eq_append_getElem hkL, ← hx] at hy
          rcases List.mem_append.1 hy with h | h
          · exact HALL.out y h
          · rw [List.mem_singleton.1 h]; exact hok
        have HS := Lib.hid hts
        have HA2 := Lib.hid hall2
        by_cases hsz : 1048576 < 4 + t + (4 + x.size)
        · have HP := Lib.hid (packVal_no (L := L) (fun h => by have := h.2.2; omega))
          clear hts hall2 hx ht htl
          go_wp2_with fail
          go_ret2
          exact ⟨by rw [HP.out]; rfl, Gr.refl _⟩
        · clear hts hall2 hx ht htl
          go_wp2_with fail
          go_round
          case rel => exact ⟨k + 1, by omega, by go_num, by rw [HS.out]; go_num, HA2.out, by rw [HS.out]; omega⟩
          case measure => simp [intOf]; omega
      · have HP := Lib.hid (packVal_no (L := L) (fun h => hok (h.2.1 x (by rw [hx]; exact List.getElem_mem hkL))))
        have hok2 : 65536 < x.size := by omega
        clear hts hx ht htl hok
        go_wp2_with fail
        go_ret2
        exact ⟨by rw [HP.out]; rfl, Gr.refl _⟩
    · have hkn : L.take k = L := List.take_of_length_le (by rw [← HN.out]; omega)
      rw [hkn] at HALL ht
      have hok : okPack L := ⟨by rw [← HN.out]; omega, HALL.out, by rw [← ht]; omega⟩
      have HP := Lib.hid (packVal_yes hok)
      have HT := Lib.hid ht
      obtain ⟨M, hM⟩ : ∃ M, M = madeCells (Value.int .u8 0).cells (((4 + t : Nat) : Int).toNat * i0.size) := ⟨_, rfl⟩
      have hMs : M.size = (4 + t) * 1 := by rw [hM, size_madeCells, HI.out.2.2.1, Int.toNat_natCast]
      have hmk : ∀ W : World, (Instr.makeSlice 41 (.int .i64 0) (.int .i64 (4 + (t : Int)))).run Tryd.prog W = .ok (.slice (some ⟨W.heap.size, 0, none⟩) 0 (4 + t)) (W.alloc (.cells M 5)) := fun W => by
        have h := run_make (P := Tryd.prog) W 41 5 i0 (.int .u8 0) Tryd.underlying41 HI.out.1 HI.out.2.1 .i64 .i64 0 ((4 + t : Nat) : Int) (by omega) (by omega) (by rw [HI.out.2.2.2]; omega) (by omega)
        rw [← hM, Int.toNat_natCast] at h
        rw [show (4 + (t : Int)) = ((4 + t : Nat) : Int) from by omega]
        exact h
      have hown0 : (w.alloc (.cells M 5)).ownsRow w.heap.size 5 1 (.slice (some ⟨w.heap.size, 0, none⟩) 0 (4 + t)) 0 [] := World.ownsRow_made w M (4 + t) (Nat.le_refl _) (by unfold maxLen; omega) hMs
      have HO := Lib.hid hown0
      have G0 : Gr w (w.alloc (.cells M 5)) := (Gr.refl w).alloc _
      have hn6 : n ≤ 4096 := by omega
      clear hkn ht hM hMs hown0 hbig
      go_wp2_with fail
      refine (rshort_at (n : Int) n rfl (by omega) _).mono ?_
      rintro e w1 ⟨rfl, g1⟩
      have hO1 := own_gr HO.out g1
      have G1 : Gr w w1 := G0.trans g1
      have z4 : (bs (be4 n)).size = 4 := be4_size n
      clear hmk
      go_wp2_with (at_builtin; refine Lib.wpList_append_own_string _ rfl (.tmp 37) (.tmp 41) 41 9 rfl w.heap.size 5 i0 Tryd.underlying41 Tryd.underlying9 HI.out.1 HI.out.2.1 HI.out.2.2.1 HI.out.2.2.2 _ _ _ rfl hO1 (bs (be4 n)) rfl ?c1 ?c2 ?c3 ?_)
      case c1 => rw [z4]; decide
      case c2 => rw [z4]; decide
      case c3 => exact G1.size
      intro v2 w2 hown2 hgrow2 _
      rw [strCells_bs] at hown2
      have G2 : Gr w w2 := gr_of_grown G1 hO1 hgrow2 G1.size
      have HO2 := Lib.hid hown2
      clear hown2 hgrow2 hO1 G1 G0 g1 z4
      go_wp2_with fail
      go_loopw [6, 7] (fun v i wr => RPackRel L w v i wr) (fun _ i _ => n - (intOf i).toNat)
      case atStart => exact ⟨0, Nat.zero_le _, rfl, by rw [List.take_zero, ← HN.out]; show w2.ownsRow _ _ _ _ 4 (Lib.byteCells (be4 n ++ [])); rw [List.append_nil]; exact HO2.out, G2⟩
      case round =>
        obtain ⟨j, hj, rfl, hbr, hgr⟩ := hrel
        rw [← HN.out] at hj hbr
        by_cases hjl : j < n
        · have hjL : j < L.length := by rw [← HN.out]; exact hjl
          obtain ⟨b, off, rfl, hca0⟩ := HA.out j hjL
          have hft := flat_take_succ L j hjL
          have htj := tot_take_le L j
          rw [← HT.out] at htj
          have hts := tot_take_succ L j hjL
          obtain ⟨x, hx⟩ : ∃ x, x = L[j] := ⟨_, rfl⟩
          have hxm : x.size ≤ 65536 := HALL.out x (by rw [hx]; exact List.getElem_mem hjL)
          rw [← hx] at hca0 hft hts
          have hca := hgr.cell hca0
          obtain ⟨m, hm⟩ : ∃ m, m = tot (L.take j) := ⟨_, rfl⟩
          rw [← hm] at hbr htj hts
          obtain ⟨xs, hxs⟩ : ∃ xs, xs = be4 n ++ flat (L.take j) := ⟨_, rfl⟩
          rw [← hxs] at hbr
          have HBR := Lib.hid hbr
          have HFT := Lib.hid hft
          have HTS := Lib.hid hts
          have HXS := Lib.hid hxs
          clear hft hx hbr hts hm hxs
          have hB2 : w.heap.size ≤ wr.heap.size := hgr.size
          go_wp2_with fail
          refine (rshort_at (x.size : Int) x.size rfl (by omega) _).mono ?_
          rintro e w4 ⟨rfl, g4⟩
          have hO4 := own_gr HBR.out g4
          have G4 : Gr w w4 := hgr.trans g4
          have hca4 := Gr.cell g4 hca
          have z4 : (bs (be4 x.size)).size = 4 := be4_size _
          clear hca
          go_wp2_with (at_builtin; refine Lib.wpList_append_own_string _ rfl (.tmp 49) (.tmp 56) 41 9 rfl w.heap.size 5 i0 Tryd.underlying41 Tryd.underlying9 HI.out.1 HI.out.2.1 HI.out.2.2.1 HI.out.2.2.2 _ _ _ rfl hO4 (bs (be4 x.size)) rfl ?c1 ?c2 ?c3 ?_)
          case c1 => rw [z4]; unfold maxLen; omega
          case c2 => rw [z4]; omega
          case c3 => exact G4.size
          intro v5 w5 hown5 hgrow5 _
          rw [strCells_bs, ← Lib.byteCells_append] at hown5
          have G5 : Gr w w5 := gr_of_grown G4 hO4 hgrow5 G4.size
          have hca5 := G5.cell hca0
          clear hca4 hgrow5 hO4 g4 z4
          go_wp2_with (at_builtin; refine Lib.wpList_append_own_string _ rfl (.tmp 58) (.tmp 62) 41 9 rfl w.heap.size 5 i0 Tryd.underlying41 Tryd.underlying9 HI.out.1 HI.out.2.1 HI.out.2.2.1 HI.out.2.2.2 _ _ _ rfl hown5 x rfl ?c1 ?c2 ?c3 ?_)
          case c1 => unfold maxLen; omega
          case c2 => omega
          case c3 => exact G5.size
          intro v6 w6 hown6 hgrow6 _
          rw [strCells_bytes, ← Lib.byteCells_append] at hown6
          have G6 : Gr w w6 := gr_of_grown G5 hown5 hgrow6 G5.size
          have hown7 : w6.ownsRow w.heap.size 5 1 v6 (4 + tot (L.take (j + 1))) (Lib.byteCells (be4 L.length ++ flat (L.take (j + 1)))) := by
            rw [HTS.out, HFT.out, ← HN.out, ← List.append_assoc, ← HXS.out, ← List.append_assoc]
            rw [show 4 + (m + (4 + x.size)) = 4 + m + 4 + x.size from by omega]
            exact hown6
          have H7 := Lib.hid hown7
          clear hown5 hown6 hown7 hgrow6 hca5 G4 G5
          go_wp2
          go_roundw
          case rel => exact ⟨j + 1, by rw [← HN.out]; omega, by go_num, H7.out, G6⟩
          case measure => simp [intOf]; omega
        · have hjn : L.take j = L := List.take_of_length_le (by rw [← HN.out]; omega)
          rw [hjn] at hbr
          have hlen : (be4 n ++ flat L).length = 4 + tot L := by rw [List.length_append, be4_length, flat_length]
          rw [← hlen] at hbr
          rcases hbr.2 with ⟨_, h0⟩ | ⟨g, cap, cur, rfl, _, _, _, _, _, _⟩
          · rw [hlen] at h0; omega
          · have hcv := own_string hbr
            have hPk := Lib.hid (show packL L = be4 n ++ flat L from by unfold packL; rw [← HN.out])
            obtain ⟨q, hq⟩ : ∃ q, q = be4 n ++ flat L := ⟨_, rfl⟩
            rw [← hq] at hcv hPk ⊢
            clear hq hlen hbr hjn
            go_wp2_with fail
            go_ret2
            exact ⟨by rw [HP.out, hPk.out]; rfl, hgr⟩
end Go.Proofs.YtnihnkcmmnlaaaaDoor
