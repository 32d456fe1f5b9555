/- Walks: Sync, Drop, Append of a log. -/
import Derived.Test.YtmkcgnljankmdaaDoorWalE
import Derived.Test.YtmkcgnljankmdaaDoorCodeG
namespace Go.Proofs.YtmkcgnljankmdaaDoor
open Go.RowKit

def RetPlan (L : List O) (k : Nat) (w : World) (e : Ending) (w' : World) : Prop := ∃ v, e = .returned (.tuple #[v, .int .i64 (k : Int)]) ∧ OO w' w.heap.size v L ∧ Gr w w'
theorem RetPlan.none {w w' : World} (k : Nat) (g : Gr w w') : RetPlan [] k w (.returned (.tuple #[.slice none 0 0, .int .i64 (k : Int)])) w' := ⟨_, rfl, OO.nil _ _, g⟩
theorem oo_one (W : World) (o : O) (B : Nat) (hB : B ≤ W.heap.size) : OO (W.alloc (.cells #[.int .i64 o.kind, .string o.name, .string o.bytes, .int .i64 o.at_] 49)) B (.slice (some ⟨W.heap.size, 0, none⟩) 1 1) [o] :=
  World.ownsRow_lit (base := B) (e := 49) (size := 4) W _ 1 hB (by unfold maxLen; omega) rfl
theorem oo_two (W : World) (o1 o2 : O) (B : Nat) (hB : B ≤ W.heap.size) : OO (W.alloc (.cells #[.int .i64 o1.kind, .string o1.name, .string o1.bytes, .int .i64 o1.at_, .int .i64 o2.kind, .string o2.name, .string o2.bytes, .int .i64 o2.at_] 49)) B (.slice (some ⟨W.heap.size, 0, none⟩) 2 2) [o1, o2] :=
  World.ownsRow_lit (base := B) (e := 49) (size := 4) W _ 2 hB (by unfold maxLen; omega) rfl
def syncPlan (L : List F) (p : ByteArray) : List O := if segN L p = 0 then [] else [syncO p (segN L p - 1)]

set_option maxRecDepth 100000 in
set_option maxHeartbeats 1000000 in
theorem sync_yes (v : Value) (L : List F) (p : ByteArray) (w : World) (hv : FV w v L) (hp : prefixB p = true) (hf : Fit L) (hlen : L.length * 48 ≤ 140737488355328) :
    Calls Tryd.prog 15 #[.agg #[v], .string p] w fun e w' => RetPlan (syncPlan L p) 0 w e w' := by
  have hps := prefix_size hp
  have h1 := fun w => prefix_any p (by omega) w
  rw [hp] at h1
  have H1 := Lib.hid h1
  have H2 := Lib.hid (fun w1 (g : Gr w w1) => segments_any v L p w1 (hv.gr g) (by omega) hf (by omega))
  have hsn := (segN_is L p).le.2
  obtain ⟨n, hn⟩ : ∃ n, n = segN L p := ⟨_, rfl⟩
  have hl := segL_len L p
  rw [← hn] at hl hsn
  have HP : Hid (syncPlan L p = if n = 0 then [] else [syncO p (n - 1)]) := Lib.hid (by unfold syncPlan; rw [hn])
  have HL := Lib.hid hl
  obtain ⟨A, c, rfl, -⟩ := hv
  have HG := Lib.hid (gr_box w (.cells #[.slice A L.length c] 24))
  clear h1 hp hl hn
  go_enter Tryd.func15, Tryd.ntmps15
  go_wp2_with fail
  refine (H1.out _).mono ?_
  rintro e w1 ⟨rfl, rfl⟩
  go_wp2_with fail
  refine (H2.out _ HG.out).mono ?_
  rintro e w2 ⟨v2, rfl, hown, g2⟩
  obtain ⟨A2, c2, hv2, hc1, hc2⟩ := hown.form
  rw [HL.out] at hv2 hc1
  subst hv2
  have HG2 := Lib.hid (HG.out.trans g2)
  clear hown g2
  by_cases h0 : n = 0
  · have ht : ((n : Int) == 0) = true := by rw [h0]; rfl
    have HP2 := Lib.hid (HP.out.trans (if_pos h0))
    clear h0
    go_wp2_with fail
    go_ret2
    rw [HP2.out]
    exact RetPlan.none 0 HG2.out
  · have ht : ((n : Int) == 0) = false := by rw [beq_eq_false_iff_ne]; omega
    have HP2 := Lib.hid (HP.out.trans (if_neg h0))
    have H3 := Lib.hid (fun w => wname_at ((n : Int) - 1) (n - 1) (by omega) p (by omega) (by omega) w)
    clear h0
    go_wp2_with fail
    refine (H3.out _).mono ?_
    rintro e w3 ⟨rfl, g3⟩
    have HG3 := Lib.hid (HG2.out.trans g3)
    have HO := Lib.hid (oo_one w3 (syncO p (n - 1)) w.heap.size HG3.out.size)
    go_wp2_with fail
    go_ret2
    rw [HP2.out]
    exact ⟨_, rfl, HO.out, HG3.out.alloc _⟩
theorem sync_no (v : Value) (p : ByteArray) (w : World) (hp : prefixB p = false) (hps : p.size ≤ 9223372036854775807) (hv : ∃ A n c, v = .slice A n c) :
    Calls Tryd.prog 15 #[.agg #[v], .string p] w fun e w' => RetPlan [] 1 w e w' := by
  have h1 := fun w => prefix_any p hps w
  rw [hp] at h1
  have H1 := Lib.hid h1
  obtain ⟨A, n, c, rfl⟩ := hv
  have HG := Lib.hid (gr_box w (.cells #[.slice A n c] 24))
  clear h1 hp
  go_enter Tryd.func15, Tryd.ntmps15
  go_wp2_with fail
  refine (H1.out _).mono ?_
  rintro e w1 ⟨rfl, rfl⟩
  go_wp2_with fail
  go_ret2
  exact RetPlan.none 1 HG.out
set_option maxRecDepth 100000 in
set_option maxHeartbeats 1000000 in
theorem drop_yes (v : Value) (L : List F) (p : ByteArray) (w : World) (hv : FV w v L) (hp : prefixB p = true) (hf : Fit L) (hlen : L.length * 48 ≤ 140737488355328) :
    Calls Tryd.prog 20 #[.agg #[v], .string p] w fun e w' => RetPlan (dropsO p 0 (segN L p)) 0 w e w' := by
  have hps := prefix_size hp
  have h1 := fun w => prefix_any p (by omega) w
  rw [hp] at h1
  have H1 := Lib.hid h1
  have H2 := Lib.hid (fun w1 (g : Gr w w1) => segments_any v L p w1 (hv.gr g) (by omega) hf (by omega))
  have hsn := (segN_is L p).le.2
  obtain ⟨n, hn⟩ : ∃ n, n = segN L p := ⟨_, rfl⟩
  have hl := segL_len L p
  rw [← hn] at hl hsn ⊢
  have HL := Lib.hid hl
  obtain ⟨A, c, rfl, -⟩ := hv
  have HG := Lib.hid (gr_box w (.cells #[.slice A L.length c] 24))
  have H3 := Lib.hid (fun w => drops_any p (by omega) 0 n (by omega) (by omega) w)
  clear h1 hp hl hn
  go_enter Tryd.func20, Tryd.ntmps20
  go_wp2_with fail
  refine (H1.out _).mono ?_
  rintro e w1 ⟨rfl, rfl⟩
  go_wp2_with fail
  refine (H2.out _ HG.out).mono ?_
  rintro e w2 ⟨v2, rfl, hown, g2⟩
  obtain ⟨A2, c2, hv2, hc1, hc2⟩ := hown.form
  rw [HL.out] at hv2 hc1
  subst hv2
  have HG2 := Lib.hid (HG.out.trans g2)
  clear hown g2
  go_wp2_with fail
  refine (H3.out _).mono ?_
  rintro e w3 ⟨v3, rfl, hown, g3⟩
  have HO := Lib.hid (hown.le HG2.out.size)
  have HG3 := Lib.hid (HG2.out.trans g3)
  clear hown g3
  go_wp2_with fail
  go_ret2
  exact ⟨_, rfl, HO.out, HG3.out⟩
theorem drop_no (v : Value) (p : ByteArray) (w : World) (hp : prefixB p = false) (hps : p.size ≤ 9223372036854775807) (hv : ∃ A n c, v = .slice A n c) :
    Calls Tryd.prog 20 #[.agg #[v], .string p] w fun e w' => RetPlan [] 1 w e w' := by
  have h1 := fun w => prefix_any p hps w
  rw [hp] at h1
  have H1 := Lib.hid h1
  obtain ⟨A, n, c, rfl⟩ := hv
  have HG := Lib.hid (gr_box w (.cells #[.slice A n c] 24))
  clear h1 hp
  go_enter Tryd.func20, Tryd.ntmps20
  go_wp2_with fail
  refine (H1.out _).mono ?_
  rintro e w1 ⟨rfl, rfl⟩
  go_wp2_with fail
  go_ret2
  exact RetPlan.none 1 HG.out

/-- The last segment. -/
def lastF (L : List F) (p : ByteArray) : F := (segO L p (segN L p - 1)).getD zeroF
/-- What writes a record. -/
def appendPlan (L : List F) (p record : ByteArray) : List O × Nat :=
  if 65536 < record.size then ([], 2)
  else if segN L p = 0 then ([writeO p 0 (frameB record)], 0)
  else if fitsB (lastF L p) (frameB record).size = true then ([writeO p (segN L p - 1) (frameB record)], 0)
  else if segN L p = 1000000 then ([], 4)
  else ([syncO p (segN L p - 1), writeO p (segN L p) (frameB record)], 0)
theorem frameB_size (s : ByteArray) : (frameB s).size = s.size + 8 := by
  unfold frameB
  rw [append_size, append_size, be4_size, be4_size]
  omega
theorem append_no (v : Value) (p record : ByteArray) (w : World) (hp : prefixB p = false) (hps : p.size ≤ 9223372036854775807) (hv : ∃ A n c, v = .slice A n c) :
    Calls Tryd.prog 17 #[.agg #[v], .string p, .string record] w fun e w' => RetPlan [] 1 w e w' := by
  have h1 := fun w => prefix_any p hps w
  rw [hp] at h1
  have H1 := Lib.hid h1
  obtain ⟨A, n, c, rfl⟩ := hv
  have HG := Lib.hid (gr_box w (.cells #[.slice A n c] 24))
  clear h1 hp
  go_enter Tryd.func17, Tryd.ntmps17
  go_wp2_with fail
  refine (H1.out _).mono ?_
  rintro e w1 ⟨rfl, rfl⟩
  go_wp2_with fail
  go_ret2
  exact RetPlan.none 1 HG.out
theorem append_long (v : Value) (p record : ByteArray) (w : World) (hp : prefixB p = true) (hr : 65536 < record.size) (hv : ∃ A n c, v = .slice A n c) :
    Calls Tryd.prog 17 #[.agg #[v], .string p, .string record] w fun e w' => RetPlan [] 2 w e w' := by
  have hps := prefix_size hp
  have h1 := fun w => prefix_any p (by omega) w
  rw [hp] at h1
  have H1 := Lib.hid h1
  have H2 := Lib.hid (fun w => frame_no record hr w)
  obtain ⟨A, n, c, rfl⟩ := hv
  have HG := Lib.hid (gr_box w (.cells #[.slice A n c] 24))
  clear h1 hp
  go_enter Tryd.func17, Tryd.ntmps17
  go_wp2_with fail
  refine (H1.out _).mono ?_
  rintro e w1 ⟨rfl, rfl⟩
  go_wp2_with fail
  refine (H2.out _).mono ?_
  rintro e w1 ⟨rfl, rfl⟩
  go_wp2_with fail
  go_ret2
  exact RetPlan.none 2 HG.out
set_option maxRecDepth 100000 in
set_option maxHeartbeats 1000000 in
theorem append_yes (v : Value) (L : List F) (p record : ByteArray) (w : World) (hv : FV w v L) (hp : prefixB p = true) (hr : record.size ≤ 65536) (hf : Fit L) (hlen : L.length * 48 ≤ 140737488355328) (hH : Halves w) :
    Calls Tryd.prog 17 #[.agg #[v], .string p, .string record] w fun e w' => RetPlan (appendPlan L p record).1 (appendPlan L p record).2 w e w' := by
  have hps := prefix_size hp
  have h1 := fun w => prefix_any p (by omega) w
  rw [hp] at h1
  have H1 := Lib.hid h1
  have H0 := Lib.hid (fun w1 (g : Gr w w1) => frame_yes record hr w1 (hH.gr g))
  have H2 := Lib.hid (fun w1 (g : Gr w w1) => segments_any v L p w1 (hv.gr g) (by omega) hf (by omega))
  have hsn := (segN_is L p).le.2
  have hl := segL_len L p
  have hfz := frameB_size record
  have hpl : appendPlan L p record = if segN L p = 0 then ([writeO p 0 (frameB record)], 0)
      else if fitsB (lastF L p) (frameB record).size = true then ([writeO p (segN L p - 1) (frameB record)], 0)
      else if segN L p = 1000000 then ([], 4)
      else ([syncO p (segN L p - 1), writeO p (segN L p) (frameB record)], 0) := by
    unfold appendPlan
    rw [if_neg (by omega)]
  have hat : ∀ i (h : i < (segL L p).length), i = segN L p - 1 → (segL L p)[i] = lastF L p := fun i h e => by
    unfold lastF
    rw [← e, segL_at h]
    rfl
  obtain ⟨n, hn⟩ : ∃ n, n = segN L p := ⟨_, rfl⟩
  obtain ⟨fr, hfr⟩ : ∃ n, n = frameB record := ⟨_, rfl⟩
  rw [← hn, ← hfr] at hpl
  rw [← hn] at hl hsn hat
  rw [← hfr] at hfz H0
  have HP := Lib.hid hpl
  have HL := Lib.hid hl
  have HAT := Lib.hid hat
  have HFit := Lib.hid hf
  obtain ⟨A, c, rfl, -⟩ := hv
  have HG := Lib.hid (gr_box w (.cells #[.slice A L.length c] 24))
  clear h1 hp hl hn hat hpl hfr hf hH
  go_enter Tryd.func17, Tryd.ntmps17
  go_wp2_with fail
  refine (H1.out _).mono ?_
  rintro e w1 ⟨rfl, rfl⟩
  go_wp2_with fail
  refine (H0.out _ HG.out).mono ?_
  rintro e w1 ⟨rfl, g1⟩
  have HG1 := Lib.hid (HG.out.trans g1)
  have hb1 : w1.cell? ⟨w.heap.size, 0, none⟩ = some (.slice A L.length c) := g1.cell (by simp)
  clear g1
  go_wp2_with fail
  refine (H2.out _ HG1.out).mono ?_
  rintro e w2 ⟨v2, rfl, hown, g2⟩
  obtain ⟨A2, c2, hv2, hc1, hc2⟩ := hown.form
  rw [HL.out] at hv2 hc1
  subst hv2
  have HO2 := Lib.hid hown
  have HG2 := Lib.hid (HG1.out.trans g2)
  clear hown g2 hb1
  rcases Nat.eq_zero_or_pos n with h0 | h0
  · have HP2 := Lib.hid (HP.out.trans (if_pos h0))
    subst h0
    have H3 := Lib.hid (fun w => write_at 0 0 rfl p fr (by omega) (by omega) w)
    go_wp2_with fail
    refine (H3.out _).mono ?_
    rintro e w3 ⟨rfl, g3⟩
    have HG3 := Lib.hid (HG2.out.trans g3)
    have HO := Lib.hid (oo_one w3 (writeO p 0 fr) w.heap.size HG3.out.size)
    clear g3
    unfold ovalue
    go_wp2_with fail
    go_ret2
    rw [HP2.out]
    exact ⟨_, rfl, HO.out, HG3.out.alloc _⟩
  obtain ⟨m, rfl⟩ : ∃ m, n = m + 1 := ⟨n - 1, by omega⟩
  have hm : m < (segL L p).length := by rw [HL.out]; omega
  obtain ⟨g, c2', hvv⟩ := HO2.out.addr hm
  rw [HL.out] at hvv
  injection hvv with e1 e2 e3
  subst e1 e3
  clear e2
  have hcell := HO2.out.at_ hm
  have hfitL := HFit.out _ (segL_mem (List.getElem_mem hm))
  rw [HAT.out m hm (by omega)] at hcell hfitL
  obtain ⟨f, hf⟩ : ∃ f, f = lastF L p := ⟨_, rfl⟩
  rw [← hf] at hcell hfitL
  obtain ⟨r0, r1, r2⟩ := hcell
  have H3 := Lib.hid (fun w => fits_any f fr hfitL (by omega) w)
  have HP1 := Lib.hid (HP.out.trans (if_neg (by omega)))
  rw [← hf] at HP1
  clear hfitL hf hm HAT HP
  rcases hq : fitsB f fr.size with _ | _
  · have HP2 := Lib.hid (HP1.out.trans (if_neg (by rw [hq]; exact Bool.false_ne_true)))
    rw [hq] at H3
    clear hq HP1
    by_cases h6 : m = 999999
    · have HP3 := Lib.hid (HP2.out.trans (if_pos (by omega)))
      have ht : ((m : Int) == 999999) = true := by rw [h6]; rfl
      clear HP2 h6
      go_wp2_with fail
      refine (H3.out _).mono ?_
      rintro e w3 ⟨rfl, g3⟩
      have HG3 := Lib.hid (HG2.out.trans g3)
      clear g3
      go_wp2_with fail
      go_ret2
      rw [HP3.out]
      exact RetPlan.none 4 HG3.out
    · have HP3 := Lib.hid (HP2.out.trans (if_neg (by omega)))
      have ht : ((m : Int) == 999999) = false := by rw [beq_eq_false_iff_ne]; omega
      have H4 := Lib.hid (fun w => wname_at (m : Int) m rfl p (by omega) (by omega) w)
      have H5 := Lib.hid (fun w => write_at ((m : Int) + 1) (m + 1) rfl p fr (by omega) (by omega) w)
      clear HP2 h6
      go_wp2_with fail
      refine (H3.out _).mono ?_
      rintro e w3 ⟨rfl, g3⟩
      have HG3 := Lib.hid (HG2.out.trans g3)
      clear g3
      go_wp2_with fail
      refine (H4.out _).mono ?_
      rintro e w4 ⟨rfl, g4⟩
      have HG4 := Lib.hid (HG3.out.trans g4)
      clear g4
      go_wp2_with fail
      refine (H5.out _).mono ?_
      rintro e w5 ⟨rfl, g5⟩
      have HG5 := Lib.hid (HG4.out.trans g5)
      have HO := Lib.hid (oo_two w5 (syncO p m) (writeO p (m + 1) fr) w.heap.size HG5.out.size)
      clear g5
      unfold ovalue
      go_wp2_with fail
      go_ret2
      rw [HP3.out]
      exact ⟨_, rfl, HO.out, HG5.out.alloc _⟩
  · have HP2 := Lib.hid (HP1.out.trans (if_pos hq))
    rw [hq] at H3
    have H5 := Lib.hid (fun w => write_at (m : Int) m rfl p fr (by omega) (by omega) w)
    clear hq HP1
    go_wp2_with fail
    refine (H3.out _).mono ?_
    rintro e w3 ⟨rfl, g3⟩
    have HG3 := Lib.hid (HG2.out.trans g3)
    clear g3
    go_wp2_with fail
    refine (H5.out _).mono ?_
    rintro e w5 ⟨rfl, g5⟩
    have HG5 := Lib.hid (HG3.out.trans g5)
    have HO := Lib.hid (oo_one w5 (writeO p m fr) w.heap.size HG5.out.size)
    clear g5
    unfold ovalue
    go_wp2_with fail
    go_ret2
    rw [HP2.out]
    exact ⟨_, rfl, HO.out, HG5.out.alloc _⟩
end Go.Proofs.YtmkcgnljankmdaaDoor
