/- Walks: opening a log, the document's. -/
import Derived.Test.YtmkcgnljankmdaaDoorWalG
import Derived.Test.YtmkcgnljankmdaaDoorDiskC
import Derived.Deep.RegionHeld3
namespace Go.Proofs.YtmkcgnljankmdaaDoor
open Go.RowKit

theorem bytes_at {L : List F} {p : ByteArray} {i : Nat} {f : F} (h : segO L p i = some f) : bytesV L (nameW p i) = .tuple #[.string (f.kept ++ f.loose), .int .i64 0] := by
  obtain ⟨hi, hn, hm⟩ := segO_name h
  unfold segO at h
  rw [if_pos hi] at h
  unfold bytesV bytesF
  rw [find?_bytes, h]
  rfl
theorem bytes_no {L : List F} {p : ByteArray} {i : Nat} (hi : i < 1000000) (h : segO L p i = none) : bytesV L (nameW p i) = .tuple #[.string ⟨#[]⟩, .int .i64 30] := by
  unfold segO at h
  rw [if_pos hi] at h
  unfold bytesV bytesF
  rw [find?_bytes, h]
  rfl
abbrev RSC (A : Option Addr) (n c : Nat) (w w' : World) : Prop := w'.cell? ⟨w.heap.size, 0, none⟩ = some (.slice A n c) ∧ Gr w w'
theorem RSC.gr {A : Option Addr} {n c : Nat} {w w1 w2 : World} (h : RSC A n c w w1) (g : Gr w1 w2) : RSC A n c w w2 := ⟨g.cell h.1, h.2.trans g⟩
def RSRel (L : List F) (p : ByteArray) (A : Option Addr) (c : Nat) (w : World) (i : Value) (wr : World) : Prop := ∃ k : Nat, i = .int .i64 (k : Int) ∧ k ≤ 1000000 ∧ (∀ j, j < k → segO L p j ≠ none) ∧ RSC A L.length c w wr

set_option maxRecDepth 100000 in
set_option maxHeartbeats 4000000 in
theorem rsegments_any (v : Value) (L : List F) (p : ByteArray) (w : World) (hv : FV w v L) (hp : p.size ≤ 1000) (hf : Fit L) :
    Calls Tryd.prog 27 #[.agg #[v], .string p] w fun e w' => e = .returned (.int .i64 (segN L p : Int)) ∧ Gr w w' := by
  have HB := Lib.hid (fun nm w1 (g : Gr w w1) => rbytes_any v L nm w1 (hv.gr g) hf)
  obtain ⟨A, c, rfl, -⟩ := hv
  have HG := Lib.hid (gr_box w (.cells #[.slice A L.length c] 24))
  have HST : Hid (RSRel L p A c w (.int .i64 0) (w.alloc (.cells #[.slice A L.length c] 24))) := Lib.hid ⟨0, rfl, Nat.zero_le _, fun j h => absurd h (Nat.not_lt_zero _), by simp, HG.out⟩
  go_enter Tryd.func27, Tryd.ntmps27
  go_wp2_with fail
  go_loopw [5] (fun i wr => RSRel L p A c w i wr) (fun i _ => 1000001 - (intOf i).toNat)
  case atStart => exact HST.out
  case round =>
    obtain ⟨k, rfl, hk, hall, hc, hgr⟩ := hrel
    have HAL := Lib.hid hall
    have HS := Lib.hid (show RSC A L.length c w wr from ⟨hc, hgr⟩)
    clear hall HST hgr
    by_cases hlt : k < 1000000
    · have H1 := Lib.hid (fun w => rwname_any p (by omega) k (by omega) w)
      have hkl : (k : Int) ≤ 999999 := by omega
      have H2 := Lib.hid (fun w1 (g : Gr w w1) => HB.out (nameW p k) w1 g)
      rcases hso : segO L p k with _ | f
      · have hb := bytes_no hlt hso
        have HE := Lib.hid (segN_eq ⟨HAL.out, hso⟩)
        rw [hb] at H2
        clear hso hb HB
        go_wp2_with fail
        go_region_held3 (fun w' => RSC A L.length c w w')
          (first
            | (with_reducible exact HS.out)
            | (with_reducible exact RSC.gr HS.out (Gr.refl _).drew)
            | (with_reducible assumption))
          (first
            | (go_at_call 29; (with_reducible refine (H1.out _).mono ?_); rintro e w4 ⟨rfl, hb⟩; have hS4 := RSC.gr (RSC.gr HS.out (Gr.refl _).drew) hb)
            | (go_at_call 28; (with_reducible refine (H2.out _ ?_).mono ?_); (first | exact hS4.2 | exact (RSC.gr hS4 (Gr.refl _).drew).2); rintro e w5 ⟨rfl, hb⟩; have hS5 := RSC.gr hS4 hb))
        have HG5 := Lib.hid hS5.2
        clear hS5 hS4
        go_wp2_with fail
        go_ret
        exact ⟨by rw [HE.out]; rfl, HG5.out⟩
      · have hb := bytes_at hso
        have HA2 : Hid (∀ j, j < k + 1 → segO L p j ≠ none) := Lib.hid (fun j hj => by
          rcases Nat.lt_or_ge j k with e | e
          · exact HAL.out j e
          · obtain rfl : j = k := by omega
            rw [hso]; exact Option.some_ne_none _)
        rw [hb] at H2
        clear hso hb HB
        go_wp2_with fail
        go_region_held3 (fun w' => RSC A L.length c w w')
          (first
            | (with_reducible exact HS.out)
            | (with_reducible exact RSC.gr HS.out (Gr.refl _).drew)
            | (with_reducible assumption))
          (first
            | (go_at_call 29; (with_reducible refine (H1.out _).mono ?_); rintro e w4 ⟨rfl, hb⟩; have hS4 := RSC.gr (RSC.gr HS.out (Gr.refl _).drew) hb)
            | (go_at_call 28; (with_reducible refine (H2.out _ ?_).mono ?_); (first | exact hS4.2 | exact (RSC.gr hS4 (Gr.refl _).drew).2); rintro e w5 ⟨rfl, hb⟩; have hS5 := RSC.gr hS4 hb))
        have HG5 := Lib.hid hS5
        clear hS5 hS4
        go_wp2_with fail
        go_roundw
        case rel => exact ⟨k + 1, by go_num, by omega, HA2.out, HG5.out⟩
        case measure => simp [intOf]; omega
    · have e : k = 1000000 := by omega
      have HE := Lib.hid (segN_eq (m := k) ⟨HAL.out, by unfold segO; rw [if_neg hlt]⟩)
      have hkl : ¬ (k : Int) ≤ 999999 := by omega
      have HG5 := Lib.hid HS.out.2
      clear e
      go_wp2_with fail
      go_ret
      exact ⟨by rw [HE.out]; rfl, HG5.out⟩
end Go.Proofs.YtmkcgnljankmdaaDoor
