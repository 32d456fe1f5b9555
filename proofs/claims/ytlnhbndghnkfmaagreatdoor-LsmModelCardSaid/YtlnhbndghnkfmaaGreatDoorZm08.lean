/- Walks: Pack. Walks: the document's Pack. Walks: building a table, the document's. Walks: what Build calls, the program's: do keys rise, keys and values in a row, the frame of fields. The library's Builder: its length, by the shelf's contract. The library's Builder beside a row of strings of the call's own: what writes to the one leaves the other. -/
import Derived.Test.YtlnhbndghnkfmaaGreatDoorZm06
import Derived.Lib.AppendStr
import Derived.Test.YtlnhbndghnkfmaaGreatDoorZm07
import Derived.StillTailTactics
import Derived.Deep.Cut
import Derived.Deep.RegionHeld3
import Derived.Test.YtlnhbndghnkfmaaGreatDoorZm03
import Derived.Shelf.Strings.BuilderK
namespace Go.Proofs.YtlnhbndghnkfmaaGreatDoor
open Go.RowKit

theorem builder_zero (w : World) : (w.alloc (.cells #[.pointer none, .slice none 0 0] 177)).heap[w.heap.size]? = some (.cells #[.pointer none, .slice none 0 0] 177 (0, 0)) := by
  show (w.heap.push _)[w.heap.size]? = _
  simp
def PackRel (L : List ByteArray) (w : World) (b : Nat) (i : Value) (wr : World) : Prop :=
  ∃ k : Nat, k ≤ L.length ∧ i = .int .i64 k ∧ Lib.BuilderAt 177 5 w.heap.size b (.pointer (some ⟨b, 0, none⟩)) (Lib.byteCells (be4 L.length ++ flat (L.take k))) wr ∧ Gr w wr
theorem strCells_bytes (s : ByteArray) : Lib.strCells s = Lib.byteCells s.data.toList := rfl
theorem strCells_bs (l : List UInt8) : Lib.strCells (bs l) = Lib.byteCells l := rfl

set_option maxRecDepth 100000 in
set_option maxHeartbeats 1000000 in
theorem pack_any (v : Value) (L : List ByteArray) (w : World) (hv : SV w v L) (hmax : ∀ s ∈ L, s.size ≤ maxLen) :
    Calls Tryz.prog 135 #[v] w fun e w' => e = .returned (packVal L) ∧ Gr w w' := by
  obtain ⟨A, c, rfl, l1, l2, l3⟩ := hv
  have HA := Lib.hid l3
  have HM := Lib.hid hmax
  clear l3 hmax
  obtain ⟨n, hn⟩ : ∃ n, n = L.length := ⟨_, rfl⟩
  rw [← hn] at l1 ⊢
  have HN := Lib.hid hn
  have hc63 : c ≤ 9223372036854775807 := l2.1
  clear hn l2
  by_cases hbig : 4096 < n
  · have HP := Lib.hid (packVal_no (L := L) (fun h => by have := h.1; rw [← HN.out] at this; omega))
    go_enter Tryz.func135, Tryz.ntmps135
    go_wp2_with fail
    go_ret2
    exact ⟨by rw [HP.out]; rfl, Gr.refl _⟩
  go_enter Tryz.func135, Tryz.ntmps135
  go_wp2_with fail
  go_loop [4, 15] (fun s i => ∃ k : Nat, k ≤ n ∧ i = .int .i64 k ∧ s = .int .i64 ((4 + tot (L.take k) : Nat) : Int) ∧ ∀ x ∈ L.take k, x.size ≤ 65536) (fun _ i => n - (intOf i).toNat)
  case atStart => exact ⟨0, Nat.zero_le _, rfl, rfl, fun x hx => by simp at hx⟩
  case round =>
    obtain ⟨k, hk, rfl, rfl, hall⟩ := hrel
    have htb := tot_bound (L.take k) 65536 hall
    have htl : (L.take k).length ≤ k := List.length_take_le _ _
    obtain ⟨t, ht⟩ : ∃ t, t = tot (L.take k) := ⟨_, rfl⟩
    rw [← ht] at htb ⊢
    have htb2 : t ≤ 65540 * 4096 := by
      refine Nat.le_trans htb (Nat.mul_le_mul (by omega) (by omega))
    have HALL := Lib.hid hall
    clear hall htb htl
    have eT : ((4 + t : Nat) : Int) = 4 + (t : Int) := by omega
    rw [eT]
    clear eT
    by_cases hlt : k < n
    · have hkL : k < L.length := by rw [← HN.out]; exact hlt
      obtain ⟨b, off, rfl, hca⟩ := HA.out k hkL
      have hts := tot_take_succ L k hkL
      obtain ⟨x, hx⟩ : ∃ x, x = L[k] := ⟨_, rfl⟩
      have hxm := HM.out x (by rw [hx]; exact List.getElem_mem hkL)
      rw [← hx] at hca hts
      rw [← ht] at hts
      have hxm2 : x.size ≤ 9223372036854775807 := hxm
      clear hxm
      by_cases hok : x.size ≤ 65536
      · have hall2 : ∀ y ∈ L.take (k + 1), y.size ≤ 65536 := by
          intro y hy
          rw [List.take_succ_eq_append_getElem hkL, ← hx] at hy
          rcases List.mem_append.1 hy with h | h
          · exact HALL.out y h
          · rw [List.mem_singleton.1 h]; exact hok
        have HS := Lib.hid hts
        have HA2 := Lib.hid hall2
        clear hts hall2 hx ht
        go_wp2_with fail
        go_round
        case rel => exact ⟨k + 1, by omega, by go_num, by rw [HS.out]; go_num, HA2.out⟩
        case measure => simp [intOf]; omega
      · have HP := Lib.hid (packVal_no (L := L) (fun h => hok (h.2.1 x (by rw [hx]; exact List.getElem_mem hkL))))
        clear hts hx ht
        go_wp2_with fail
        go_ret2
        exact ⟨by rw [HP.out]; rfl, Gr.refl _⟩
    · have hkn : L.take k = L := List.take_of_length_le (by rw [← HN.out]; omega)
      rw [hkn] at HALL ht
      by_cases hfit : 1048576 < 4 + t
      · have HP := Lib.hid (packVal_no (L := L) (fun h => by have := h.2.2; rw [← ht] at this; omega))
        clear hkn ht
        go_wp2_with fail
        go_ret2
        exact ⟨by rw [HP.out]; rfl, Gr.refl _⟩
      · have hok : okPack L := ⟨by rw [← HN.out]; omega, HALL.out, by rw [← ht]; omega⟩
        have HP := Lib.hid (packVal_yes hok)
        have HT := Lib.hid ht
        clear hkn ht
        have hg := builder_grow w.heap.size w.heap.size (4 + t) (w.alloc (.cells #[.pointer none, .slice none 0 0] 177)) (Nat.le_refl _) (builder_zero w) (by simp) (by omega)
        rw [show ((4 + t : Nat) : Int) = 4 + (t : Int) from by omega] at hg
        have HG := Lib.hid hg
        clear hg
        have hn6 : n ≤ 4096 := by omega
        have ht6 : t ≤ 1048572 := by omega
        clear hbig hfit htb2
        go_wp2_with fail
        refine HG.out.mono ?_
        rintro e w1 ⟨rfl, hb1, g1⟩
        have G1 : Gr w w1 := ((Below.refl _ w).alloc (Nat.le_refl _) _).trans g1
        clear g1
        go_wp2_with fail
        refine (short_at (n : Int) n rfl (by omega) _).mono ?_
        rintro e w2 ⟨rfl, g2⟩
        have hb2 := BuilderAt.gr hb1 g2
        have G2 : Gr w w2 := G1.trans g2
        have z4 : (bs (be4 n)).size = 4 := be4_size n
        go_wp2_with fail
        refine (builder_write w.heap.size w.heap.size [] (bs (be4 n)) w2 (Or.inr hb2) (by rw [z4]; simp) G2.size).mono ?_
        rintro e w3 ⟨rfl, hb3, g3⟩
        have G3 : Gr w w3 := Below.trans G2 g3
        rw [List.nil_append, strCells_bs] at hb3
        have HB3 := Lib.hid hb3
        clear hb1 hb2 hb3 g2 g3 G1 G2 z4
        go_wp2_with fail
        go_loopw [39] (fun i wr => PackRel L w w.heap.size i wr) (fun i _ => n - (intOf i).toNat)
        case atStart => exact ⟨0, Nat.zero_le _, rfl, by rw [List.take_zero, ← HN.out]; show Lib.BuilderAt _ _ _ _ _ (Lib.byteCells (be4 n ++ [])) _; rw [List.append_nil]; exact HB3.out, G3⟩
        case round =>
          obtain ⟨j, hj, rfl, hbr, hgr⟩ := hrel
          rw [← HN.out] at hj hbr
          by_cases hjl : j < n
          · have hjL : j < L.length := by rw [← HN.out]; exact hjl
            obtain ⟨b, off, rfl, hca⟩ := HA.out j hjL
            have hca := hgr.cell hca
            have hft := flat_take_succ L j hjL
            have hlen : (be4 n ++ flat (L.take j)).length ≤ 4 + t := by
              rw [List.length_append, be4_length, flat_length, HT.out]
              have := tot_take_le L j
              omega
            obtain ⟨x, hx⟩ : ∃ x, x = L[j] := ⟨_, rfl⟩
            have hxm : x.size ≤ 65536 := HALL.out x (by rw [hx]; exact List.getElem_mem hjL)
            rw [← hx] at hca hft
            have HBR := Lib.hid hbr
            have HFT := Lib.hid hft
            clear hft hx hbr
            go_wp2_with fail
            refine (short_at (x.size : Int) x.size rfl (by omega) _).mono ?_
            rintro e w4 ⟨rfl, g4⟩
            have hb4 := BuilderAt.gr HBR.out g4
            have G4 : Gr w w4 := hgr.trans g4
            have hca4 := Gr.cell g4 hca
            clear hca
            have z4 : (bs (be4 x.size)).size = 4 := be4_size _
            go_wp2_with fail
            refine (builder_write w.heap.size w.heap.size _ (bs (be4 x.size)) w4 (Or.inr hb4) (by rw [z4, Lib.byteCells_length]; omega) G4.size).mono ?_
            rintro e w5 ⟨rfl, hb5, g5⟩
            have G5 : Gr w w5 := Below.trans G4 g5
            rw [strCells_bs, ← Lib.byteCells_append] at hb5
            go_wp2_with fail
            refine (builder_write w.heap.size w.heap.size _ x w5 (Or.inr hb5) (by rw [Lib.byteCells_length, List.length_append, be4_length]; omega) G5.size).mono ?_
            rintro e w6 ⟨rfl, hb6, g6⟩
            have G6 : Gr w w6 := Below.trans G5 g6
            rw [strCells_bytes, ← Lib.byteCells_append, List.append_assoc, List.append_assoc] at hb6
            have HB6 := Lib.hid hb6
            clear hb4 hb5 hb6 hca4 z4 g4 g5 g6 G4 G5
            go_wp2
            go_roundw
            case rel => exact ⟨j + 1, by rw [← HN.out]; omega, by go_num, by rw [HFT.out, ← HN.out]; exact HB6.out, G6⟩
            case measure => simp [intOf]; omega
          · have hjn : L.take j = L := List.take_of_length_le (by rw [← HN.out]; omega)
            rw [hjn] at hbr
            have hstr := builder_string w.heap.size w.heap.size (be4 n ++ flat L) wr (Or.inr hbr) hgr.size
            have HS := Lib.hid hstr
            clear hjn hbr hstr
            go_wp2_with fail
            refine HS.out.mono ?_
            rintro e w7 ⟨rfl, g7⟩
            go_wp2_with fail
            go_ret2
            exact ⟨by rw [HP.out]; unfold packL; rw [← HN.out]; rfl, Below.trans hgr g7⟩
end Go.Proofs.YtlnhbndghnkfmaaGreatDoor
namespace Go.Proofs.YtlnhbndghnkfmaaGreatDoor
open Go.RowKit

theorem infoByte : (Tryz.prog.info? 5).map (fun i => (i.zero, i.size, i.bytes)) = some (some (.int .u8 0), 1, 1) := by kernel_rfl
end Go.Proofs.YtlnhbndghnkfmaaGreatDoor
namespace Go.Proofs.YtlnhbndghnkfmaaGreatDoor
open Go.RowKit

abbrev RP (b off i : Nat) (x y : ByteArray) (w0 w' : World) : Prop := w'.cell? ⟨b, off + i * 2, none⟩ = some (.string x) ∧ w'.cell? ⟨b, off + i * 2 + 1, none⟩ = some (.string y) ∧ Gr w0 w'
theorem RP.gr {b off i : Nat} {x y : ByteArray} {w0 w1 w2 : World} (h : RP b off i x y w0 w1) (g : Gr w1 w2) : RP b off i x y w0 w2 := ⟨g.cell h.1, g.cell h.2.1, h.2.2.trans g⟩
abbrev RK (b off i : Nat) (x : ByteArray) (w0 w' : World) : Prop := w'.cell? ⟨b, off + i * 2, none⟩ = some (.string x) ∧ Gr w0 w'
theorem RK.gr {b off i : Nat} {x : ByteArray} {w0 w1 w2 : World} (h : RK b off i x w0 w1) (g : Gr w1 w2) : RK b off i x w0 w2 := ⟨g.cell h.1, h.2.trans g⟩
theorem idx_small {L : List PR} (h : ∀ p ∈ L, p.key.size ≤ 281474976710656 ∧ p.val.size ≤ 281474976710656) {k : Nat} : ∀ s ∈ idxK L k, s.size ≤ 281474976710656 := by
  induction k with
  | zero => intro s hs; cases hs
  | succ k ih =>
    intro s hs
    rcases List.mem_append.1 hs with hs | hs
    · exact ih s hs
    · simp only [List.mem_cons, List.not_mem_nil, or_false] at hs
      rcases hs with rfl | rfl
      · unfold keyAt
        cases hg : L[8 * k]? with
        | none => exact Nat.zero_le _
        | some p => exact (h p (List.mem_of_getElem? hg)).1
      · show 8 ≤ _; decide

end Go.Proofs.YtlnhbndghnkfmaaGreatDoor
namespace Go.Proofs.YtlnhbndghnkfmaaGreatDoor
open Go.RowKit

set_option maxRecDepth 100000 in
set_option maxHeartbeats 1000000 in
theorem rising_any (v : Value) (L : List PR) (r : Bool) (hr : r = true ↔ rises L) (w : World) (hv : PV w v L) :
    Calls Tryz.prog 156 #[v] w fun e w' => e = .returned (.bool r) ∧ Gr w w' := by
  obtain ⟨A, c, rfl, l1, ⟨l2, _⟩, l3⟩ := hv
  have hc63 : c ≤ 9223372036854775807 := l2
  have HP := Lib.hid l3
  obtain ⟨n, hn⟩ : ∃ n, n = L.length := ⟨_, rfl⟩
  rw [← hn] at l1 ⊢
  have HN := Lib.hid hn
  have HR := Lib.hid hr
  clear l2 l3 hn hr
  go_enter Tryz.func156, Tryz.ntmps156
  go_wp2_with fail
  go_loopw [3] (fun i wr => ∃ j : Nat, i = .int .i64 ((j : Int) + 1) ∧ j ≤ n ∧ (∀ q, q < j → ∀ (h : q + 1 < L.length), lessS L[q].key L[q + 1].key = true) ∧ Gr w wr) (fun i _ => n - (intOf i).toNat)
  case atStart => exact ⟨0, rfl, Nat.zero_le _, fun q h => absurd h (Nat.not_lt_zero _), Gr.refl _⟩
  case round =>
    obtain ⟨j, rfl, hj, hall, hgr⟩ := hrel
    have HAL := Lib.hid hall
    have HGR := Lib.hid hgr
    clear hall
    by_cases hlt : j + 1 < n
    · have h1 : j + 1 < L.length := by rw [← HN.out]; exact hlt
      obtain ⟨b, off, rfl, q0, -⟩ := HP.out j (by omega)
      obtain ⟨b', off', hbk, r0, -⟩ := HP.out (j + 1) h1
      injection hbk with hbk
      injection hbk with e1 e2
      subst e1 e2
      have c0 := hgr.cell q0
      have c1 := hgr.cell r0
      obtain ⟨x, hx⟩ : ∃ x, x = L[j].key := ⟨_, rfl⟩
      obtain ⟨y, hy⟩ : ∃ y, y = L[j + 1].key := ⟨_, rfl⟩
      rw [← hx] at c0
      rw [← hy] at c1
      clear q0 r0 hgr
      rcases hls : lessS x y with _ | _
      · have hno : ¬ rises L := fun h => by
          have := h j h1
          rw [← hx, ← hy, hls] at this
          cases this
        have HF : Hid (r = false) := Lib.hid (by
          rcases r with _ | _
          · rfl
          · exact absurd (HR.out.1 rfl) hno)
        have ht : Go.Op.bytesLess x.toList y.toList = false := hls
        clear hno hls hx hy
        go_wp2_with fail
        go_quiet (fail)
        go_wp2
        go_ret
        exact ⟨by rw [HF.out]; rfl, HGR.out.drewN _⟩
      · have ht : Go.Op.bytesLess x.toList y.toList = true := hls
        have HA2 : Hid (∀ q, q < j + 1 → ∀ (h : q + 1 < L.length), lessS L[q].key L[q + 1].key = true) := Lib.hid (fun q hq => by
          rcases Nat.lt_or_ge q j with e | e
          · exact HAL.out q e
          · obtain rfl : q = j := by omega
            intro h
            rw [← hx, ← hy]
            exact hls)
        clear hls hx hy
        go_wp2_with fail
        go_quiet (fail)
        go_wp2
        go_roundw
        case rel => exact ⟨j + 1, by go_num, by omega, HA2.out, HGR.out.drewN _⟩
        case measure => simp [intOf]; omega
    · have hrs : rises L := fun q h => HAL.out q (by rw [← HN.out] at h; omega) h
      have HF : Hid (r = true) := Lib.hid (HR.out.2 hrs)
      have HG := Lib.hid hgr
      clear hrs hgr
      go_wp2_with fail
      go_ret
      exact ⟨by rw [HF.out]; rfl, HG.out⟩

def FlatRel (L : List PR) (w : World) (f i : Value) (wr : World) : Prop :=
  ∃ k : Nat, i = .int .i64 (k : Int) ∧ k ≤ L.length ∧ SO wr w.heap.size f (kvs (L.take k)) ∧ Gr w wr
theorem kvs_take1 (L : List PR) (k : Nat) (h : k < L.length) : kvs (L.take (k + 1)) = kvs (L.take k) ++ [L[k].key, L[k].val] := by
  rw [List.take_succ_eq_append_getElem h, kvs_append]
  rfl
set_option maxRecDepth 100000 in
set_option maxHeartbeats 1000000 in
theorem flat_any (v : Value) (L : List PR) (w : World) (hv : PV w v L) (hl : L.length ≤ 8) :
    Calls Tryz.prog 158 #[v] w fun e w' => ∃ u, e = .returned u ∧ SO w' w.heap.size u (kvs L) ∧ Gr w w' := by
  obtain ⟨i0, hi, hz0, hz1, hz2⟩ := info_parts infoString
  have HI := Lib.hid (And.intro hi (And.intro hz0 (And.intro hz1 hz2)))
  clear hi hz0 hz1 hz2
  obtain ⟨A, c, rfl, l1, ⟨l2, _⟩, l3⟩ := hv
  have hc63 : c ≤ 9223372036854775807 := l2
  have HP := Lib.hid l3
  obtain ⟨n, hn⟩ : ∃ n, n = L.length := ⟨_, rfl⟩
  rw [← hn] at l1 hl ⊢
  have HN := Lib.hid hn
  clear l2 l3 hn
  obtain ⟨M, hM⟩ : ∃ M, M = madeCells (Value.string ⟨#[]⟩).cells (((2 * n : Nat) : Int).toNat * i0.size) := ⟨_, rfl⟩
  have hMs : M.size = (2 * n) * 1 := by rw [hM, size_madeCells, HI.out.2.2.1, Int.toNat_natCast]
  have hmk : ∀ W : World, (Instr.makeSlice 28 (.int .i64 0) (.int .i64 (2 * (n : Int)))).run Tryz.prog W = .ok (.slice (some ⟨W.heap.size, 0, none⟩) 0 (2 * n)) (W.alloc (.cells M 9)) := fun W => by
    have h := run_make (P := Tryz.prog) W 28 9 i0 (.string ⟨#[]⟩) Tryz.underlying28 HI.out.1 HI.out.2.1 .i64 .i64 0 ((2 * n : Nat) : Int) (by omega) (by omega) (by rw [HI.out.2.2.2]; omega) (by omega)
    rw [← hM, Int.toNat_natCast] at h
    rw [show (2 * (n : Int)) = ((2 * n : Nat) : Int) from by omega]
    exact h
  have hown0 : (w.alloc (.cells M 9)).ownsRow w.heap.size 9 1 (.slice (some ⟨w.heap.size, 0, none⟩) 0 (2 * n)) 0 [] := World.ownsRow_made w M (2 * n) (Nat.le_refl _) (by unfold maxLen; omega) hMs
  have HO : Hid (SO (w.alloc (.cells M 9)) w.heap.size (.slice (some ⟨w.heap.size, 0, none⟩) 0 (2 * n)) (kvs (L.take 0))) := Lib.hid hown0
  have G0 := Lib.hid (gr_box w (.cells M 9))
  clear hM hMs hown0
  go_enter Tryz.func158, Tryz.ntmps158
  go_wp2_with fail
  go_loopw [3, 12] (fun f i wr => FlatRel L w f i wr) (fun _ i _ => n - (intOf i).toNat)
  case atStart => exact ⟨0, rfl, Nat.zero_le _, HO.out, G0.out⟩
  case round =>
    obtain ⟨k, rfl, hk, hf, hgr⟩ := hrel
    rw [← HN.out] at hk
    have HF := Lib.hid hf
    have HG := Lib.hid hgr
    have hff := own_form hf
    have hlk : (kvs (L.take k)).length = 2 * k := by rw [kvs_len, List.length_take, ← HN.out]; omega
    rw [hlk] at hff
    obtain ⟨Af, cf, rfl, -, -⟩ := hff
    have HLK := Lib.hid hlk
    clear hf hlk hmk
    by_cases hlt : k < n
    · have h1 : k < L.length := by rw [← HN.out]; exact hlt
      obtain ⟨b, off, rfl, q0, q1⟩ := HP.out k h1
      have HK := Lib.hid (kvs_take1 L k h1)
      obtain ⟨x, hx⟩ : ∃ x, x = L[k].key := ⟨_, rfl⟩
      obtain ⟨y, hy⟩ : ∃ y, y = L[k].val := ⟨_, rfl⟩
      rw [← hx, ← hy] at HK
      rw [← hx] at q0
      rw [← hy] at q1
      have c0 := hgr.cell q0
      have c1 := hgr.cell q1
      clear hx hy q0 q1 hgr
      go_wp2_with (at_builtin; refine wpList_push_n (w0 := w) rfl (.tmp 16) (.tmp 21) rfl (.slice Af (2 * k) cf) (.slice (some ⟨wr.heap.size + 1, 0, none⟩) 2 2) (kvs (L.take k)) [x, y] (2 * k) 2 HLK.out.symm rfl rfl ((HF.out.gr (gr_box _ _)).gr (gr_box _ _)) rfl (sv_two_at _ x y _ (by simp)) (by omega) ((HG.out.alloc _).alloc _) ?_; intro A5 c5 w5 hown5 g5)
      have HO5 : Hid (SO w5 w.heap.size (.slice A5 (2 * k + 2) c5) (kvs (L.take (k + 1)))) := Lib.hid (by rw [HK.out]; exact hown5)
      clear hown5 c0 c1
      go_wp2
      go_roundw
      case rel => exact ⟨k + 1, by go_num, by rw [← HN.out]; omega, HO5.out, g5⟩
      case measure => simp [intOf]; omega
    · have hke : k = n := by omega
      have HE : Hid (kvs (L.take k) = kvs L) := Lib.hid (by rw [List.take_of_length_le (by rw [← HN.out]; omega)])
      clear hgr
      go_wp2_with fail
      go_ret
      exact ⟨_, rfl, by rw [← HE.out]; exact HF.out, HG.out⟩

/-- What packed answers. -/
noncomputable def packedVal (fs : List ByteArray) : Value := by
  classical exact if okBlk fs then .tuple #[.string (frameB (bs (packL fs))), .int .i64 0] else .tuple #[.string ⟨#[]⟩, .int .i64 2]
theorem packedVal_yes {fs : List ByteArray} (h : okBlk fs) : packedVal fs = .tuple #[.string (frameB (bs (packL fs))), .int .i64 0] := by unfold packedVal; rw [if_pos h]
theorem packedVal_no {fs : List ByteArray} (h : ¬ okBlk fs) : packedVal fs = .tuple #[.string ⟨#[]⟩, .int .i64 2] := by unfold packedVal; rw [if_neg h]
set_option maxRecDepth 100000 in
set_option maxHeartbeats 1000000 in
theorem packed_any (v : Value) (fs : List ByteArray) (w : World) (hv : SV w v fs) (hmax : ∀ s ∈ fs, s.size ≤ maxLen) (hH : Halves w) :
    Calls Tryz.prog 157 #[v] w fun e w' => e = .returned (packedVal fs) ∧ Gr w w' := by
  have H1 := Lib.hid (pack_any v fs w hv hmax)
  have HH := Lib.hid hH
  clear hv hmax hH
  by_cases hok : okPack fs
  · have HV := Lib.hid (packVal_yes hok)
    by_cases hfr : (packL fs).length ≤ 65536
    · have HR := Lib.hid (packedVal_yes ⟨hok, hfr⟩)
      have H2 := Lib.hid (fun w1 (g : Gr w w1) => frame_yes (bs (packL fs)) (by rw [bs_size]; exact hfr) w1 (HH.out.gr g))
      obtain ⟨F, hF⟩ : ∃ F, F = frameB (bs (packL fs)) := ⟨_, rfl⟩
      rw [← hF] at H2 HR
      obtain ⟨bd, hbd⟩ : ∃ F, F = bs (packL fs) := ⟨_, rfl⟩
      rw [← hbd] at H2 HV
      clear hok hfr hF hbd
      go_enter Tryz.func157, Tryz.ntmps157
      go_wp2_with fail
      refine H1.out.mono ?_
      rintro e w1 ⟨rfl, g1⟩
      rw [HV.out]
      go_wp2_with fail
      refine (H2.out _ g1).mono ?_
      rintro e w2 ⟨rfl, g2⟩
      go_wp2_with fail
      go_ret2
      exact ⟨by rw [HR.out]; rfl, g1.trans g2⟩
    · have HR := Lib.hid (packedVal_no (fs := fs) (fun h => hfr h.2))
      have H2 := Lib.hid (fun w1 => frame_no (bs (packL fs)) (by rw [bs_size]; omega) w1)
      obtain ⟨bd, hbd⟩ : ∃ F, F = bs (packL fs) := ⟨_, rfl⟩
      rw [← hbd] at H2 HV
      clear hok hfr hbd
      go_enter Tryz.func157, Tryz.ntmps157
      go_wp2_with fail
      refine H1.out.mono ?_
      rintro e w1 ⟨rfl, g1⟩
      rw [HV.out]
      go_wp2_with fail
      refine (H2.out _).mono ?_
      rintro e w2 ⟨rfl, rfl⟩
      go_wp2_with fail
      go_ret2
      exact ⟨by rw [HR.out]; rfl, g1⟩
  · have HV := Lib.hid (packVal_no hok)
    have HR := Lib.hid (packedVal_no (fs := fs) (fun h => hok h.1))
    clear hok
    go_enter Tryz.func157, Tryz.ntmps157
    go_wp2_with fail
    refine H1.out.mono ?_
    rintro e w1 ⟨rfl, g1⟩
    rw [HV.out]
    go_wp2_with fail
    go_ret2
    exact ⟨by rw [HR.out]; rfl, g1⟩
end Go.Proofs.YtlnhbndghnkfmaaGreatDoor
namespace Go.Proofs.YtlnhbndghnkfmaaGreatDoor
open Go.Shelf Go.RowKit
def lays170_ren : Go.Shelf.Ren := ⟨fun | 170 => 160 | n => n, fun | 0 => 0 | 3 => 3 | 5 => 5 | 37 => 121 | 70 => 175 | 72 => 177 | n => n, fun | n => n⟩
theorem lays170 : Go.Proofs.Lays.n170 Tryz.prog lays170_ren := {
  mixed := by kernel_rfl
  f170 := Tryz.func160.trans (congrArg some (by kernel_rfl))
  t0 := Tryz.underlying0
  a0 := Tryz.isAgg0
  z0 := Tryz.sizeOf0
  v0 := Tryz.zeroValue0
  t3 := Tryz.underlying3
  a3 := Tryz.isAgg3
  z3 := Tryz.sizeOf3
  v3 := Tryz.zeroValue3
  t37 := Tryz.underlying121
  a37 := Tryz.isAgg121
  z37 := Tryz.sizeOf121
  v37 := Tryz.zeroValue121
  t70 := Tryz.underlying175
  a70 := Tryz.isAgg175
  z70 := Tryz.sizeOf175
  v70 := Tryz.zeroValue175
  t72 := Tryz.underlying177
  a72 := Tryz.isAgg177
  z72 := Tryz.sizeOf177
  v72 := Tryz.zeroValue177 }
end Go.Proofs.YtlnhbndghnkfmaaGreatDoor
namespace Go.Proofs.YtlnhbndghnkfmaaGreatDoor
open Go.Shelf Go.RowKit

/-- The builder in block b holds these bytes. -/
def Bld (B b : Nat) (l : List UInt8) (w : World) : Prop := Lib.IsBuilderF 177 5 B b (Lib.byteCells l) w
theorem Bld.at_ {B b : Nat} {l : List UInt8} {w : World} (h : Bld B b l w) : ∃ p, (p = .pointer none ∨ p = .pointer (some ⟨b, 0, none⟩)) ∧ Lib.BuilderAtF 177 5 B b p (Lib.byteCells l) w := by
  rcases h with h | h
  · exact ⟨_, .inl rfl, h⟩
  · exact ⟨_, .inr rfl, h⟩
theorem Bld.of {B b : Nat} {l : List UInt8} {w : World} {p : Value} (hp : p = .pointer none ∨ p = .pointer (some ⟨b, 0, none⟩)) (h : Lib.BuilderAtF 177 5 B b p (Lib.byteCells l) w) : Bld B b l w := by
  rcases hp with rfl | rfl
  · exact .inl h
  · exact .inr h
theorem Bld.heap {B b : Nat} {l : List UInt8} {w : World} (h : Bld B b l w) : B ≤ b ∧ ∃ cs fz, w.heap[b]? = some (.cells cs 177 fz) := by
  obtain ⟨p, _, hB, v, hb, _⟩ := h.at_
  exact ⟨hB, _, _, hb⟩
/-- What leaves all blocks that were there but those of strings leaves a builder. -/
theorem Bld.kept {B b : Nat} {l : List UInt8} {w w' : World} {row : Option Nat} (h : Bld B b l w) (hg : w.grownBy w' row) (hr : ∀ g, row = some g → ∃ c fz, w.heap[g]? = some (.cells c 9 fz)) : Bld B b l w' := by
  obtain ⟨p, hp, hB, v, hb, hown, hne⟩ := h.at_
  have hbl : b < w.heap.size := (Array.getElem?_eq_some_iff.1 hb).1
  refine Bld.of hp ⟨hB, v, ?_, ?_, hne⟩
  · rw [hg.block b hbl ?_]
    · exact hb
    · intro e
      obtain ⟨c, fz, hc⟩ := hr b e.symm
      rw [hb] at hc
      injection hc with hc
      injection hc with _ hc
      revert hc
      decide
  · refine World.ownsRowF.kept hown hg ?_
    rcases hv : v.ownBlock with _ | g
    · exact .inl rfl
    · refine .inr (fun e => ?_)
      obtain ⟨c, fz, hc⟩ := hr g e.symm
      obtain ⟨c', fz', hc'⟩ := Lib.ownsRowF_kind hown g hv
      rw [hc] at hc'
      injection hc' with hc'
      injection hc' with _ hc'
      revert hc'
      decide
theorem Bld.gr {B b : Nat} {l : List UInt8} {w w' : World} (h : Bld B b l w) (g : Gr w w') : Bld B b l w' :=
  h.kept (row := none) ⟨g.os, g.tape, g.output, g.size, fun k hk _ => g.block k hk⟩ (fun g e => by cases e)
theorem SO.kind {w : World} {B : Nat} {v : Value} {L : List ByteArray} (h : SO w B v L) : ∀ g, v.ownBlock = some g → ∃ c fz, w.heap[g]? = some (.cells c 9 fz) := by
  intro g hg
  exact Lib.ownsRowF_kind (World.ownsRowF_of h) g hg
theorem Bld.new (w : World) : Bld w.heap.size w.heap.size [] (w.alloc (.cells #[.pointer none, .slice none 0 0] 177)) := Lib.IsBuilderF.of (Lib.fresh_isBuilder _ _ w)
theorem SO.others {w w' : World} {B b : Nat} {v : Value} {L : List ByteArray} (h : SO w B v L) (hb : ∃ cs fz, w.heap[b]? = some (.cells cs 177 fz)) (hk : Lib.OthersKept 5 (some b) w w') : SO w' B v L := by
  obtain ⟨h0, h1⟩ := h
  refine ⟨h0, ?_⟩
  rcases h1 with h1 | ⟨g, cap, cur, hv, hB, hg, h2⟩
  · exact .inl h1
  · refine .inr ⟨g, cap, cur, hv, hB, hk g _ hg ?_ ?_, h2⟩
    · intro e
      injection e with e
      subst e
      obtain ⟨cs, fz, hc⟩ := hb
      rw [hg] at hc
      injection hc with hc
      injection hc with _ hc
      revert hc
      decide
    · intro c fz hc
      injection hc with _ hc
      revert hc
      decide
theorem byteCells_str (s : ByteArray) : Lib.strCells s = Lib.byteCells s.data.toList := rfl
theorem bld_write (B b : Nat) (l : List UInt8) (s : ByteArray) (w : World) (h : Bld B b l w) (hlen : l.length + s.size ≤ 140737488355328) (hB : B ≤ w.heap.size) :
    Calls Tryz.prog 161 #[.pointer (some ⟨b, 0, none⟩), .string s] w fun e w' => e = .returned (.tuple #[.int .i64 s.size, .nilIface]) ∧ Bld B b (l ++ s.data.toList) w' ∧ Below B w w' ∧ Lib.OthersKept 5 (some b) w w' := by
  refine (Any.Builder_WriteString_k lays166 extra166 B b (Lib.byteCells l) s w h (by unfold Lib.byteCells; rw [List.length_map]; exact hlen) hB).mono ?_
  rintro e w' ⟨rfl, h1, h2, h3⟩
  refine ⟨rfl, .inr ?_, h2, h3⟩
  rw [Lib.byteCells_append, ← byteCells_str]
  exact h1
theorem bld_len (B b : Nat) (l : List UInt8) (w : World) (h : Bld B b l w) :
    Calls Tryz.prog 160 #[.pointer (some ⟨b, 0, none⟩)] w fun e w' => e = .returned (.int .i64 l.length) ∧ w' = w := by
  refine (Any.Builder_Len_f lays170 B b (Lib.byteCells l) w h).mono ?_
  rintro e w' ⟨rfl, rfl⟩
  exact ⟨by unfold Lib.byteCells; rw [List.length_map], rfl⟩
theorem bld_string (B b : Nat) (l : List UInt8) (w : World) (h : Bld B b l w) (hB : B ≤ w.heap.size) :
    Calls Tryz.prog 162 #[.pointer (some ⟨b, 0, none⟩)] w fun e w' => e = .returned (.string (bs l)) ∧ Below B w w' := by
  refine (Any.Builder_String_any_k lays169 extra169 B b l w h hB).mono ?_
  rintro e w' ⟨rfl, _, h2, _⟩
  exact ⟨rfl, h2⟩
section
variable {ops : Array Oper} {o : Oper} {a : Act} {W w0 : World} {K : Act → World → Prop} {Q : Exit → Act → World → Prop} {E : Prop}
/-- append of strings beside a builder. -/
theorem step_push_bld (hgd : o.guard = none) (s x : Operand)
    (ho : o.op = .call { callee := .builtin .append, args := #[s, x], argTypes := #[28, 28] })
    (v vx : Value) (L M : List ByteArray) (n m : Nat) (hn : n = L.length) (hm : m = M.length) (hs : a.eval s = v) (hown : SO W w0.heap.size v L) (hx : a.eval x = vx) (hxv : SV W vx M) (hlen : (n + m) * 16 ≤ 140737488355328) (hg : Gr w0 W)
    (B b : Nat) (l : List UInt8) (hb : Bld B b l W)
    (h : ∀ A' c' w', SO w' w0.heap.size (.slice A' (n + m) c') (L ++ M) → Gr w0 w' → Bld B b l w' → W.heap.size ≤ w'.heap.size → K (a.put o.dst (.slice A' (n + m) c')) w') :
    if Region.wanted o (yielded ops a.tmps) = true then Oper.wp Tryz.prog o a W K Q else E := by
  subst hn hm
  obtain ⟨i0, hi, hz0, hz1, hz2⟩ := info_parts infoString
  have hsz := hg.size
  refine step_append_sl W hgd s x 28 ho w0.heap.size 9 i0 _ 1 16 Tryz.underlying28 hi hz0 hz1 hz2 rfl (by decide) v L.length (L.map Value.string) hs hown vx M.length (M.map Value.string) hx
    hxv.sl (strs_one M) (by unfold maxLen; omega) hlen hsz (L.length + M.length) rfl ?_
  intro A' c' w' hown' hgr _
  refine h A' c' w' ?_ (gr_of_grown hg hown hgr hsz) (hb.kept hgr hown.kind) hgr.size
  unfold SO
  rw [List.length_append, List.map_append]
  exact hown'
end
end Go.Proofs.YtlnhbndghnkfmaaGreatDoor
