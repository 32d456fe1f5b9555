/- Walks: the segments of a log, the program's. -/
import Derived.Test.YtmkcgnljankmdaaDoorWalA
import Derived.Test.YtmkcgnljankmdaaDoorDiskN
namespace Go.Proofs.YtmkcgnljankmdaaDoor
open Go.RowKit

theorem made_seg (n : Nat) : (madeCells #[.string ⟨#[]⟩, .string ⟨#[]⟩, .string ⟨#[]⟩] (n * 3)).toList = fcells (List.replicate n zeroF) := by
  apply List.ext_getElem?
  intro j
  by_cases hj : j < n * 3
  · have hq : j / 3 < n := by omega
    have hr := Nat.mod_lt j (show 0 < 3 by decide)
    have hd : j / 3 * 3 + j % 3 = j := by omega
    have hs : (fcells (List.replicate n zeroF))[j]? = (fcell zeroF)[j % 3]? := by
      have := rows_at fcell 3 fcell_len (List.replicate n zeroF) (j / 3) (j % 3) (by rw [List.length_replicate]; exact hq) hr
      rw [hd, List.getElem_replicate] at this
      exact this
    rw [hs]
    have : (madeCells #[Value.string ⟨#[]⟩, .string ⟨#[]⟩, .string ⟨#[]⟩] (n * 3)).toList[j]? = some (#[Value.string ⟨#[]⟩, .string ⟨#[]⟩, .string ⟨#[]⟩][j % 3]!) := by
      simp [madeCells, hj]
    rw [this]
    match j % 3, hr with
    | 0, _ => rfl
    | 1, _ => rfl
    | 2, _ => rfl
  · rw [List.getElem?_eq_none, List.getElem?_eq_none]
    · rw [fcells_len, List.length_replicate]; omega
    · simp [madeCells]; omega
theorem make_seg (n : Nat) (hn : n * 48 ≤ 281474976710656) : ∃ M0 : Array Value, M0.toList = fcells (List.replicate n zeroF) ∧ M0.size = n * 3 ∧
    ∀ W : World, (Instr.makeSlice 22 (.int .i64 (n : Int)) (.int .i64 (n : Int))).run Tryd.prog W = .ok (.slice (some ⟨W.heap.size, 0, none⟩) n n) (W.alloc (.cells M0 46)) := by
  obtain ⟨i0, hi, hz0, hz1, hz2⟩ := info_parts infoFile
  refine ⟨madeCells #[.string ⟨#[]⟩, .string ⟨#[]⟩, .string ⟨#[]⟩] (n * 3), made_seg n, by simp [madeCells], fun W => ?_⟩
  have h := run_make (P := Tryd.prog) W 22 46 i0 _ Tryd.underlying22 hi hz0 .i64 .i64 (n : Int) (n : Int) (by omega) (by omega) (by rw [hz2]; omega) (by omega)
  rw [hz1, Int.toNat_natCast] at h
  exact h
/-- The places behind the first k files. -/
structure SGInv (L : List F) (p : ByteArray) (n k : Nat) (w wr : World) : Prop where
  hk : k ≤ n
  row : FO wr (w.heap.size + 1) (.slice (some ⟨w.heap.size + 1, 0, none⟩) n n) (logAt (L.take k) p n)
  gr : Gr w wr
  lo : w.heap.size + 1 < wr.heap.size
def SGRel (L : List F) (p : ByteArray) (n : Nat) (w : World) (i : Value) (wr : World) : Prop := ∃ k : Nat, i = .int .i64 (k : Int) ∧ SGInv L p n k w wr
theorem sg_skip {L : List F} {p : ByteArray} {n k : Nat} {w wr w4 : World} (h : SGInv L p n k w wr) (hn : n = L.length) (hk : k < L.length) {f : F} (hf : f = L[k]) (hs : ∀ i, numW p f.name = some i → i < n → segO (L.take k) p i ≠ none) (g : Gr wr w4) : SGInv L p n (k + 1) w w4 := by
  refine ⟨by omega, ?_, h.gr.trans g, Nat.lt_of_lt_of_le h.lo g.size⟩
  rw [List.take_succ_eq_append_getElem hk, ← hf, logAt_not hs]
  exact h.row.gr g
theorem sg_put {L : List F} {p : ByteArray} {n k i : Nat} {w wr w4 : World} (h : SGInv L p n k w wr) (hn : n = L.length) (hk : k < L.length) {f : F} (hf : f = L[k]) (hi : numW p f.name = some i) (hin : i < n) (hs : segO (L.take k) p i = none) (g : Gr wr w4) :
    SGInv L p n (k + 1) w (((w4.setCell ⟨w.heap.size + 1, i * 3, none⟩ (.string f.name)).setCell ⟨w.heap.size + 1, i * 3 + 1, none⟩ (.string f.kept)).setCell ⟨w.heap.size + 1, i * 3 + 2, none⟩ (.string f.loose)) := by
  have hlo := h.lo
  refine ⟨by omega, ?_, Below.setCell (Below.setCell (Below.setCell (h.gr.trans g) (p := ⟨w.heap.size + 1, i * 3, none⟩) (show w.heap.size ≤ w.heap.size + 1 by omega) _) (p := ⟨w.heap.size + 1, i * 3 + 1, none⟩) (show w.heap.size ≤ w.heap.size + 1 by omega) _) (p := ⟨w.heap.size + 1, i * 3 + 2, none⟩) (show w.heap.size ≤ w.heap.size + 1 by omega) _, by have := g.size; simp [World.setCell]; omega⟩
  rw [List.take_succ_eq_append_getElem hk, ← hf, logAt_put hi hs]
  exact (h.row.gr g).put3 (by rw [logAt_len]; exact hin) f
/-- The places, up to the first that is free. -/
structure SHInv (L : List F) (p : ByteArray) (n k : Nat) (w wr : World) : Prop where
  hk : k ≤ n
  all : ∀ i, i < k → segO L p i ≠ none
  row : FO wr (w.heap.size + 1) (.slice (some ⟨w.heap.size + 1, 0, none⟩) n n) (logAt L p n)
  gr : Gr w wr
  lo : w.heap.size + 1 < wr.heap.size
def SHRel (L : List F) (p : ByteArray) (n : Nat) (w : World) (i : Value) (wr : World) : Prop := ∃ k : Nat, i = .int .i64 (k : Int) ∧ SHInv L p n k w wr
theorem sh_start {L : List F} {p : ByteArray} {n k : Nat} {w wr : World} (h : SGInv L p n k w wr) (hn : n = L.length) (hk : ¬ k < n) : SHInv L p n 0 w wr := by
  have := h.hk
  have hr := h.row
  rw [List.take_of_length_le (by omega)] at hr
  exact ⟨Nat.zero_le _, fun i hi => absurd hi (Nat.not_lt_zero _), hr, h.gr, h.lo⟩
theorem sh_step {L : List F} {p : ByteArray} {n k : Nat} {w wr w4 : World} (h : SHInv L p n k w wr) (hk : k < n) (hs : segO L p k ≠ none) (g : Gr wr w4) : SHInv L p n (k + 1) w w4 :=
  ⟨hk, fun i hi => by
    rcases Nat.lt_or_ge i k with e | e
    · exact h.all i e
    · obtain rfl : i = k := by omega
      exact hs, h.row.gr g, h.gr.trans g, Nat.lt_of_lt_of_le h.lo g.size⟩
theorem sh_end {L : List F} {p : ByteArray} {n k : Nat} {w wr w4 : World} (h : SHInv L p n k w wr) (hn : n = L.length) (hk : ¬ k < n) (g : Gr wr w4) : FO w4 w.heap.size (.slice (some ⟨w.heap.size + 1, 0, none⟩) n n) (segL L p) := by
  have := h.hk
  have e : segN L p = L.length := segN_eq (seg_all (fun i hi => h.all i (by omega)))
  have : segL L p = logAt L p n := by
    rw [segL_take, e, ← hn, List.take_of_length_le (by rw [logAt_len]; exact Nat.le_refl _)]
  rw [this]
  exact (h.row.gr g).le (by omega)
theorem sh_found {L : List F} {p : ByteArray} {n k : Nat} {w wr w4 : World} (h : SHInv L p n k w wr) (hn : n = L.length) (hs : segO L p k = none) (g : Gr wr w4) : FO w4 w.heap.size (.slice (some ⟨w.heap.size + 1, 0, none⟩) k n) (segL L p) := by
  have e : segN L p = k := segN_eq ⟨h.all, hs⟩
  have hl : (segL L p).length = k := by rw [segL_len, e]
  have hr := (h.row.gr g).le (show w.heap.size ≤ w.heap.size + 1 by omega)
  unfold FO at hr
  rw [logAt_len] at hr
  have hp := own_prefix hr (k := k) h.hk
  unfold FO
  rw [hl]
  have e2 : fcells (segL L p) = (fcells (logAt L p n)).take (k * 3) := by
    rw [segL_take, e, ← hn]
    exact (rows_take fcell 3 fcell_len _ _).symm
  rw [e2]
  exact hp
theorem sbox (f : F) (wr : World) : ∃ W3, W3 = wr.alloc (.cells #[.string f.name, .string f.kept, .string f.loose] 46) ∧ Gr wr W3 ∧
    W3.cell? ⟨wr.heap.size, 0, none⟩ = some (.string f.name) ∧ W3.cell? ⟨wr.heap.size, 1, none⟩ = some (.string f.kept) ∧ W3.cell? ⟨wr.heap.size, 2, none⟩ = some (.string f.loose) :=
  ⟨_, rfl, gr_box wr _, by simp, by simp, by simp⟩
theorem slot_some {o : Option F} {f : F} (h : o = some f) : o.getD zeroF = f := by rw [h]; rfl
theorem slot_none {o : Option F} (h : o = none) : o.getD zeroF = zeroF := by rw [h]; rfl

set_option maxRecDepth 100000 in
set_option maxHeartbeats 4000000 in
theorem segments_any (v : Value) (L : List F) (p : ByteArray) (w : World) (hv : FV w v L) (hp : p.size ≤ 1000) (hf : Fit L) (hlen : L.length * 48 ≤ 281474976710656) :
    Calls Tryd.prog 22 #[.agg #[v], .string p] w fun e w' => RetFiles (segL L p) w e w' := by
  obtain ⟨A, c, rfl, l1, ⟨l2, _⟩, l3⟩ := hv
  have hc63 : c ≤ 9223372036854775807 := l2
  have HA := Lib.hid l3
  have HFit := Lib.hid hf
  obtain ⟨n, hn⟩ : ∃ n, n = L.length := ⟨_, rfl⟩
  rw [← hn] at l1 hlen ⊢
  have HN := Lib.hid hn
  clear l3 l2 hn hf
  obtain ⟨M0, hM1, hM2, hmk⟩ := make_seg n hlen
  have HST : Hid (SGRel L p n w (.int .i64 0) ((w.alloc (.cells #[.slice A n c] 24)).alloc (.cells M0 46))) := by
    refine ⟨0, rfl, Nat.zero_le _, ?_, (gr_box w _).alloc _, (by simp)⟩
    have h := World.ownsRow_lit (base := w.heap.size + 1) (e := 46) (size := 3) (w.alloc (.cells #[.slice A n c] 24)) M0 n (by simp) (by unfold maxLen; omega) hM2
    rw [hM1] at h
    rw [List.take_zero, logAt_nil]
    unfold FO
    rw [List.length_replicate]
    simpa using h
  clear hM1 hM2
  go_enter Tryd.func22, Tryd.ntmps22
  go_wp2_with fail
  clear hmk
  go_loopw [19] (fun i wr => SGRel L p n w i wr) (fun i _ => n - (intOf i).toNat)
  case atStart => exact HST.out
  case round =>
    obtain ⟨k, rfl, inv⟩ := hrel
    have HI := Lib.hid inv
    have hk : k ≤ n := inv.hk
    clear inv HST
    by_cases hlt : k < n
    · have hkL : k < L.length := by rw [← HN.out]; exact hlt
      obtain ⟨b, off, rfl, q0, q1, q2⟩ := HA.out k hkL
      have c0 := HI.out.gr.cell q0
      have c1 := HI.out.gr.cell q1
      have c2 := HI.out.gr.cell q2
      have hfit := HFit.out _ (List.getElem_mem hkL)
      unfold FitF at hfit
      have hs := hfit.1
      obtain ⟨f, hf⟩ : ∃ f, f = L[k] := ⟨_, rfl⟩
      rw [← hf] at c0 c1 c2 hs
      have HF := Lib.hid hf
      obtain ⟨W3, hW3, G3, x0, x1, x2⟩ := sbox f wr
      have H1 := Lib.hid (number_any p f.name hp (by omega) W3)
      have HSK := Lib.hid (fun hs => sg_skip (w4 := W3) HI.out HN.out hkL hf hs G3)
      clear q0 q1 q2 hfit hf hs
      go_wp2_with fail
      rw [← hW3]
      clear hW3
      rcases hnum : numW p f.name with _ | j
      · have H2 : Hid (SGInv L p n (k + 1) w W3) := Lib.hid (HSK.out (fun i hi => by rw [hnum] at hi; cases hi))
        rw [hnum] at H1
        have H3 : Hid (Calls Tryd.prog 35 #[.string p, .string f.name] W3 fun e w' => e = .returned (.tuple #[.int .i64 0, .bool false]) ∧ W3 = w') := H1
        clear hnum
        refine H3.out.mono ?_
        rintro e w1 ⟨rfl, rfl⟩
        go_wp2_with fail
        go_roundw
        case rel => exact ⟨k + 1, by go_num, H2.out⟩
        case measure => simp [intOf]; omega
      · rw [hnum] at H1
        have H3 : Hid (Calls Tryd.prog 35 #[.string p, .string f.name] W3 fun e w' => e = .returned (.tuple #[.int .i64 (j : Int), .bool true]) ∧ W3 = w') := H1
        have hj6 : j < 1000000 := ((num_iff _ _ _).1 hnum).1
        by_cases hjn : j < n
        · rcases hso : segO (L.take k) p j with _ | x
          · have hrow := HI.out.row.gr G3
            have hat := hrow.at_ (j := j) (by rw [logAt_len]; exact hjn)
            rw [logAt_at, slot_none hso] at hat
            obtain ⟨r0, r1, r2⟩ := hat
            obtain ⟨xn, hxn⟩ : ∃ y, y = zeroF.name := ⟨_, rfl⟩
            have he : xn.toList = [] := size_empty.2 (by rw [hxn]; rfl)
            rw [← hxn] at r0
            have z0 := hrow.free (j * 3)
            have z1 := hrow.free (j * 3 + 1)
            have z2 := hrow.free (j * 3 + 2)
            have H2 := Lib.hid (sg_put HI.out HN.out hkL HF.out hnum hjn hso G3)
            clear hnum hso hrow hxn
            refine H3.out.mono ?_
            rintro e w1 ⟨rfl, rfl⟩
            go_wp2_with fail
            go_roundw
            case rel => exact ⟨k + 1, by go_num, H2.out⟩
            case measure => simp [intOf]; omega
          · have hrow := HI.out.row.gr G3
            have hat := hrow.at_ (j := j) (by rw [logAt_len]; exact hjn)
            rw [logAt_at, slot_some hso] at hat
            obtain ⟨r0, -, -⟩ := hat
            have H2 : Hid (SGInv L p n (k + 1) w W3) := Lib.hid (HSK.out (fun i hi _ => by rw [hnum] at hi; injection hi with hi; subst hi; rw [hso]; exact Option.some_ne_none _))
            obtain ⟨xn, hxn⟩ : ∃ y, y = x.name := ⟨_, rfl⟩
            have he : xn.toList.isEmpty = false := by
              cases hq : xn.toList with
              | nil =>
                have := size_empty.1 hq
                rw [hxn, (segO_name hso).2.1, nameW_size] at this
                omega
              | cons a b => rfl
            rw [← hxn] at r0
            clear hnum hso hrow hxn
            refine H3.out.mono ?_
            rintro e w1 ⟨rfl, rfl⟩
            go_wp2_with fail
            go_roundw
            case rel => exact ⟨k + 1, by go_num, H2.out⟩
            case measure => simp [intOf]; omega
        · have H2 : Hid (SGInv L p n (k + 1) w W3) := Lib.hid (HSK.out (fun i hi hin => by rw [hnum] at hi; injection hi with hi; omega))
          clear hnum
          refine H3.out.mono ?_
          rintro e w1 ⟨rfl, rfl⟩
          go_wp2_with fail
          go_roundw
          case rel => exact ⟨k + 1, by go_num, H2.out⟩
          case measure => simp [intOf]; omega
    · have HS2 := Lib.hid (sh_start HI.out HN.out hlt)
      clear HI HA
      go_wp2_with fail
      go_loopw [52] (fun i wr => SHRel L p n w i wr) (fun i _ => n - (intOf i).toNat)
      case atStart => exact ⟨0, rfl, HS2.out⟩
      case round =>
        obtain ⟨k', rfl, inv⟩ := hrel
        have HI := Lib.hid inv
        have hk' : k' ≤ n := inv.hk
        clear inv HS2
        by_cases hlt2 : k' < n
        · have hat := HI.out.row.at_ (j := k') (by rw [logAt_len]; exact hlt2)
          rw [logAt_at] at hat
          obtain ⟨f, hf⟩ : ∃ f, f = (segO L p k').getD zeroF := ⟨_, rfl⟩
          rw [← hf] at hat
          obtain ⟨r0, r1, r2⟩ := hat
          rcases hso : segO L p k' with _ | x
          · have he : f.name.toList = [] := size_empty.2 (by rw [hf, hso]; rfl)
            have hsl := slice_to n n k' hk' (some ⟨w.heap.size + 1, 0, none⟩)
            have H2 := Lib.hid (sh_found HI.out HN.out hso (gr_box _ (.cells #[.string f.name, .string f.kept, .string f.loose] 46)))
            have HG := Lib.hid (HI.out.gr.alloc (.cells #[.string f.name, .string f.kept, .string f.loose] 46))
            clear hso hf
            go_wp2_with fail
            go_ret
            exact ⟨_, rfl, H2.out, HG.out⟩
          · have he : f.name.toList.isEmpty = false := by
              cases hq : f.name.toList with
              | nil =>
                have := size_empty.1 hq
                rw [hf, slot_some hso, (segO_name hso).2.1, nameW_size] at this
                omega
              | cons a b => rfl
            have H2 := Lib.hid (sh_step HI.out hlt2 (by rw [hso]; exact Option.some_ne_none _) (gr_box _ (.cells #[.string f.name, .string f.kept, .string f.loose] 46)))
            clear hso hf
            go_wp2_with fail
            go_roundw
            case rel => exact ⟨k' + 1, by go_num, H2.out⟩
            case measure => simp [intOf]; omega
        · have H2 := Lib.hid (sh_end HI.out HN.out hlt2 (Gr.refl _))
          have HG := Lib.hid HI.out.gr
          go_wp2_with fail
          go_ret
          exact ⟨_, rfl, H2.out, HG.out⟩
end Go.Proofs.YtmkcgnljankmdaaDoor
