/- Walks: Sync, Drop, Append of a log. Walks: opening a log, the program's. -/
import Derived.Test.YtlnhbndghnkfmaaGreatDoorZm13
import Derived.Test.YtlnhbndghnkfmaaGreatDoorZm06
import Derived.Test.YtlnhbndghnkfmaaGreatDoorZm07
namespace Go.Proofs.YtlnhbndghnkfmaaGreatDoor
open Go.RowKit

def RetPlan (L : List O) (k : Nat) (w : World) (e : Ending) (w' : World) : Prop := ∃ v, e = .returned (.tuple #[v, .int .i64 (k : Int)]) ∧ OO w' w.heap.size v L ∧ Gr w w'
theorem RetPlan.none {w w' : World} (k : Nat) (g : Gr w w') : RetPlan [] k w (.returned (.tuple #[.slice none 0 0, .int .i64 (k : Int)])) w' := ⟨_, rfl, OO.nil _ _, g⟩
theorem oo_one (W : World) (o : O) (B : Nat) (hB : B ≤ W.heap.size) : OO (W.alloc (.cells #[.int .i64 o.kind, .string o.name, .string o.bytes, .int .i64 o.at_] 72)) B (.slice (some ⟨W.heap.size, 0, none⟩) 1 1) [o] :=
  World.ownsRow_lit (base := B) (e := 72) (size := 4) W _ 1 hB (by unfold maxLen; omega) rfl
theorem oo_two (W : World) (o1 o2 : O) (B : Nat) (hB : B ≤ W.heap.size) : OO (W.alloc (.cells #[.int .i64 o1.kind, .string o1.name, .string o1.bytes, .int .i64 o1.at_, .int .i64 o2.kind, .string o2.name, .string o2.bytes, .int .i64 o2.at_] 72)) B (.slice (some ⟨W.heap.size, 0, none⟩) 2 2) [o1, o2] :=
  World.ownsRow_lit (base := B) (e := 72) (size := 4) W _ 2 hB (by unfold maxLen; omega) rfl
def syncPlan (L : List F) (p : ByteArray) : List O := if segN L p = 0 then [] else [syncO p (segN L p - 1)]

set_option maxRecDepth 100000 in
set_option maxHeartbeats 1000000 in
theorem sync_yes (v : Value) (L : List F) (p : ByteArray) (w : World) (hv : FV w v L) (hp : prefixB p = true) (hf : Fit L) (hlen : L.length * 48 ≤ 140737488355328) :
    Calls Tryz.prog 124 #[.agg #[v], .string p] w fun e w' => RetPlan (syncPlan L p) 0 w e w' := by
  have hps := prefix_size hp
  have h1 := fun w => prefix_any p (by omega) w
  rw [hp] at h1
  have H1 := Lib.hid h1
  have H2 := Lib.hid (fun w1 (g : Gr w w1) => segments_any v L p w1 (hv.gr g) (by omega) hf (by omega))
  have hsn := (segN_is L p).le.2
  obtain ⟨n, hn⟩ : ∃ n, n = segN L p := ⟨_, rfl⟩
  have hl := segL_len L p
  rw [← hn] at hl hsn
  have HP : Hid (syncPlan L p = if n = 0 then [] else [syncO p (n - 1)]) := Lib.hid (by unfold syncPlan; rw [hn])
  have HL := Lib.hid hl
  obtain ⟨A, c, rfl, -⟩ := hv
  have HG := Lib.hid (gr_box w (.cells #[.slice A L.length c] 24))
  clear h1 hp hl hn
  go_enter Tryz.func124, Tryz.ntmps124
  go_wp2_with fail
  refine (H1.out _).mono ?_
  rintro e w1 ⟨rfl, rfl⟩
  go_wp2_with fail
  refine (H2.out _ HG.out).mono ?_
  rintro e w2 ⟨v2, rfl, hown, g2⟩
  obtain ⟨A2, c2, hv2, hc1, hc2⟩ := hown.form
  rw [HL.out] at hv2 hc1
  subst hv2
  have HG2 := Lib.hid (HG.out.trans g2)
  clear hown g2
  by_cases h0 : n = 0
  · have ht : ((n : Int) == 0) = true := by rw [h0]; rfl
    have HP2 := Lib.hid (HP.out.trans (if_pos h0))
    clear h0
    go_wp2_with fail
    go_ret2
    rw [HP2.out]
    exact RetPlan.none 0 HG2.out
  · have ht : ((n : Int) == 0) = false := by rw [beq_eq_false_iff_ne]; omega
    have HP2 := Lib.hid (HP.out.trans (if_neg h0))
    have H3 := Lib.hid (fun w => wname_at ((n : Int) - 1) (n - 1) (by omega) p (by omega) (by omega) w)
    clear h0
    go_wp2_with fail
    refine (H3.out _).mono ?_
    rintro e w3 ⟨rfl, g3⟩
    have HG3 := Lib.hid (HG2.out.trans g3)
    have HO := Lib.hid (oo_one w3 (syncO p (n - 1)) w.heap.size HG3.out.size)
    go_wp2_with fail
    go_ret2
    rw [HP2.out]
    exact ⟨_, rfl, HO.out, HG3.out.alloc _⟩
/-- The last segment. -/
def lastF (L : List F) (p : ByteArray) : F := (segO L p (segN L p - 1)).getD zeroF
/-- What writes a record. -/
def appendPlan (L : List F) (p record : ByteArray) : List O × Nat :=
  if 65536 < record.size then ([], 2)
  else if segN L p = 0 then ([writeO p 0 (frameB record)], 0)
  else if fitsB (lastF L p) (frameB record).size = true then ([writeO p (segN L p - 1) (frameB record)], 0)
  else if segN L p = 1000000 then ([], 4)
  else ([syncO p (segN L p - 1), writeO p (segN L p) (frameB record)], 0)
theorem frameB_size (s : ByteArray) : (frameB s).size = s.size + 8 := by
  unfold frameB
  rw [append_size, append_size, be4_size, be4_size]
  omega
theorem append_long (v : Value) (p record : ByteArray) (w : World) (hp : prefixB p = true) (hr : 65536 < record.size) (hv : ∃ A n c, v = .slice A n c) :
    Calls Tryz.prog 111 #[.agg #[v], .string p, .string record] w fun e w' => RetPlan [] 2 w e w' := by
  have hps := prefix_size hp
  have h1 := fun w => prefix_any p (by omega) w
  rw [hp] at h1
  have H1 := Lib.hid h1
  have H2 := Lib.hid (fun w => frame_no record hr w)
  obtain ⟨A, n, c, rfl⟩ := hv
  have HG := Lib.hid (gr_box w (.cells #[.slice A n c] 24))
  clear h1 hp
  go_enter Tryz.func111, Tryz.ntmps111
  go_wp2_with fail
  refine (H1.out _).mono ?_
  rintro e w1 ⟨rfl, rfl⟩
  go_wp2_with fail
  refine (H2.out _).mono ?_
  rintro e w1 ⟨rfl, rfl⟩
  go_wp2_with fail
  go_ret2
  exact RetPlan.none 2 HG.out
set_option maxRecDepth 100000 in
set_option maxHeartbeats 1000000 in
theorem append_yes (v : Value) (L : List F) (p record : ByteArray) (w : World) (hv : FV w v L) (hp : prefixB p = true) (hr : record.size ≤ 65536) (hf : Fit L) (hlen : L.length * 48 ≤ 140737488355328) (hH : Halves w) :
    Calls Tryz.prog 111 #[.agg #[v], .string p, .string record] w fun e w' => RetPlan (appendPlan L p record).1 (appendPlan L p record).2 w e w' := by
  have hps := prefix_size hp
  have h1 := fun w => prefix_any p (by omega) w
  rw [hp] at h1
  have H1 := Lib.hid h1
  have H0 := Lib.hid (fun w1 (g : Gr w w1) => frame_yes record hr w1 (hH.gr g))
  have H2 := Lib.hid (fun w1 (g : Gr w w1) => segments_any v L p w1 (hv.gr g) (by omega) hf (by omega))
  have hsn := (segN_is L p).le.2
  have hl := segL_len L p
  have hfz := frameB_size record
  have hpl : appendPlan L p record = if segN L p = 0 then ([writeO p 0 (frameB record)], 0)
      else if fitsB (lastF L p) (frameB record).size = true then ([writeO p (segN L p - 1) (frameB record)], 0)
      else if segN L p = 1000000 then ([], 4)
      else ([syncO p (segN L p - 1), writeO p (segN L p) (frameB record)], 0) := by
    unfold appendPlan
    rw [if_neg (by omega)]
  have hat : ∀ i (h : i < (segL L p).length), i = segN L p - 1 → (segL L p)[i] = lastF L p := fun i h e => by
    unfold lastF
    rw [← e, segL_at h]
    rfl
  obtain ⟨n, hn⟩ : ∃ n, n = segN L p := ⟨_, rfl⟩
  obtain ⟨fr, hfr⟩ : ∃ n, n = frameB record := ⟨_, rfl⟩
  rw [← hn, ← hfr] at hpl
  rw [← hn] at hl hsn hat
  rw [← hfr] at hfz H0
  have HP := Lib.hid hpl
  have HL := Lib.hid hl
  have HAT := Lib.hid hat
  have HFit := Lib.hid hf
  obtain ⟨A, c, rfl, -⟩ := hv
  have HG := Lib.hid (gr_box w (.cells #[.slice A L.length c] 24))
  clear h1 hp hl hn hat hpl hfr hf hH
  go_enter Tryz.func111, Tryz.ntmps111
  go_wp2_with fail
  refine (H1.out _).mono ?_
  rintro e w1 ⟨rfl, rfl⟩
  go_wp2_with fail
  refine (H0.out _ HG.out).mono ?_
  rintro e w1 ⟨rfl, g1⟩
  have HG1 := Lib.hid (HG.out.trans g1)
  have hb1 : w1.cell? ⟨w.heap.size, 0, none⟩ = some (.slice A L.length c) := g1.cell (by simp)
  clear g1
  go_wp2_with fail
  refine (H2.out _ HG1.out).mono ?_
  rintro e w2 ⟨v2, rfl, hown, g2⟩
  obtain ⟨A2, c2, hv2, hc1, hc2⟩ := hown.form
  rw [HL.out] at hv2 hc1
  subst hv2
  have HO2 := Lib.hid hown
  have HG2 := Lib.hid (HG1.out.trans g2)
  clear hown g2 hb1
  rcases Nat.eq_zero_or_pos n with h0 | h0
  · have HP2 := Lib.hid (HP.out.trans (if_pos h0))
    subst h0
    have H3 := Lib.hid (fun w => write_at 0 0 rfl p fr (by omega) (by omega) w)
    go_wp2_with fail
    refine (H3.out _).mono ?_
    rintro e w3 ⟨rfl, g3⟩
    have HG3 := Lib.hid (HG2.out.trans g3)
    have HO := Lib.hid (oo_one w3 (writeO p 0 fr) w.heap.size HG3.out.size)
    clear g3
    unfold ovalue
    go_wp2_with fail
    go_ret2
    rw [HP2.out]
    exact ⟨_, rfl, HO.out, HG3.out.alloc _⟩
  obtain ⟨m, rfl⟩ : ∃ m, n = m + 1 := ⟨n - 1, by omega⟩
  have hm : m < (segL L p).length := by rw [HL.out]; omega
  obtain ⟨g, c2', hvv⟩ := HO2.out.addr hm
  rw [HL.out] at hvv
  injection hvv with e1 e2 e3
  subst e1 e3
  clear e2
  have hcell := HO2.out.at_ hm
  have hfitL := HFit.out _ (segL_mem (List.getElem_mem hm))
  rw [HAT.out m hm (by omega)] at hcell hfitL
  obtain ⟨f, hf⟩ : ∃ f, f = lastF L p := ⟨_, rfl⟩
  rw [← hf] at hcell hfitL
  obtain ⟨r0, r1, r2⟩ := hcell
  have H3 := Lib.hid (fun w => fits_any f fr hfitL (by omega) w)
  have HP1 := Lib.hid (HP.out.trans (if_neg (by omega)))
  rw [← hf] at HP1
  clear hfitL hf hm HAT HP
  rcases hq : fitsB f fr.size with _ | _
  · have HP2 := Lib.hid (HP1.out.trans (if_neg (by rw [hq]; exact Bool.false_ne_true)))
    rw [hq] at H3
    clear hq HP1
    by_cases h6 : m = 999999
    · have HP3 := Lib.hid (HP2.out.trans (if_pos (by omega)))
      have ht : ((m : Int) == 999999) = true := by rw [h6]; rfl
      clear HP2 h6
      go_wp2_with fail
      refine (H3.out _).mono ?_
      rintro e w3 ⟨rfl, g3⟩
      have HG3 := Lib.hid (HG2.out.trans g3)
      clear g3
      go_wp2_with fail
      go_ret2
      rw [HP3.out]
      exact RetPlan.none 4 HG3.out
    · have HP3 := Lib.hid (HP2.out.trans (if_neg (by omega)))
      have ht : ((m : Int) == 999999) = false := by rw [beq_eq_false_iff_ne]; omega
      have H4 := Lib.hid (fun w => wname_at (m : Int) m rfl p (by omega) (by omega) w)
      have H5 := Lib.hid (fun w => write_at ((m : Int) + 1) (m + 1) rfl p fr (by omega) (by omega) w)
      clear HP2 h6
      go_wp2_with fail
      refine (H3.out _).mono ?_
      rintro e w3 ⟨rfl, g3⟩
      have HG3 := Lib.hid (HG2.out.trans g3)
      clear g3
      go_wp2_with fail
      refine (H4.out _).mono ?_
      rintro e w4 ⟨rfl, g4⟩
      have HG4 := Lib.hid (HG3.out.trans g4)
      clear g4
      go_wp2_with fail
      refine (H5.out _).mono ?_
      rintro e w5 ⟨rfl, g5⟩
      have HG5 := Lib.hid (HG4.out.trans g5)
      have HO := Lib.hid (oo_two w5 (syncO p m) (writeO p (m + 1) fr) w.heap.size HG5.out.size)
      clear g5
      unfold ovalue
      go_wp2_with fail
      go_ret2
      rw [HP3.out]
      exact ⟨_, rfl, HO.out, HG5.out.alloc _⟩
  · have HP2 := Lib.hid (HP1.out.trans (if_pos hq))
    rw [hq] at H3
    have H5 := Lib.hid (fun w => write_at (m : Int) m rfl p fr (by omega) (by omega) w)
    clear hq HP1
    go_wp2_with fail
    refine (H3.out _).mono ?_
    rintro e w3 ⟨rfl, g3⟩
    have HG3 := Lib.hid (HG2.out.trans g3)
    clear g3
    go_wp2_with fail
    refine (H5.out _).mono ?_
    rintro e w5 ⟨rfl, g5⟩
    have HG5 := Lib.hid (HG3.out.trans g5)
    have HO := Lib.hid (oo_one w5 (writeO p m fr) w.heap.size HG5.out.size)
    clear g5
    unfold ovalue
    go_wp2_with fail
    go_ret2
    rw [HP2.out]
    exact ⟨_, rfl, HO.out, HG5.out.alloc _⟩
end Go.Proofs.YtlnhbndghnkfmaaGreatDoor
namespace Go.Proofs.YtlnhbndghnkfmaaGreatDoor
open Go.RowKit

/-- All bytes of a file, the records in it, and whether bytes stand behind its whole frames. -/
def fbytes (f : F) : List UInt8 := (f.kept ++ f.loose).data.toList
def recsF (f : F) : List (List UInt8) := scanAll (fbytes f)
def tornF (f : F) : Prop := bytesOf (recsF f) < (fbytes f).length
instance (f : F) : Decidable (tornF f) := inferInstanceAs (Decidable (_ < _))
/-- Of m segments those from number i on: the records, and what mends the log. -/
def openS (p : ByteArray) (m : Nat) : Nat → List F → List (List UInt8) × List O
  | _, [] => ([], [])
  | i, f :: r => if tornF f then (recsF f, dropsO p (i + 1) m ++ [cutO p i (bytesOf (recsF f))]) else (recsF f ++ (openS p m (i + 1) r).1, (openS p m (i + 1) r).2)
def openW (L : List F) (p : ByteArray) : List (List UInt8) × List O := openS p (segL L p).length 0 (segL L p)
theorem openS_torn {p : ByteArray} {m i : Nat} {f : F} {r : List F} (h : tornF f) : openS p m i (f :: r) = (recsF f, dropsO p (i + 1) m ++ [cutO p i (bytesOf (recsF f))]) := if_pos h
theorem openS_whole {p : ByteArray} {m i : Nat} {f : F} {r : List F} (h : ¬ tornF f) : openS p m i (f :: r) = (recsF f ++ (openS p m (i + 1) r).1, (openS p m (i + 1) r).2) := if_neg h
theorem fbytes_len (f : F) : (fbytes f).length = f.size := by
  unfold fbytes F.size
  rw [← size_list, ByteArray.size_append]
theorem recs_few {f : F} (h : f.size ≤ 1048576) : (recsF f).length ≤ 131072 := by
  have h1 := count_bytes (recsF f)
  have h2 := bytesOf_scan (fbytes f).length (fbytes f) (Nat.le_refl _)
  rw [fbytes_len] at h2
  unfold recsF at h1 ⊢
  omega
theorem recs_le (f : F) : bytesOf (recsF f) ≤ f.size := by
  have h2 := bytesOf_scan (fbytes f).length (fbytes f) (Nat.le_refl _)
  rw [fbytes_len] at h2
  exact h2

/-- What opening answers: records, a plan, an error's number. -/
def RetOpen (R : List (List UInt8)) (P : List O) (k : Nat) (w : World) (e : Ending) (w' : World) : Prop :=
  ∃ v1 v2, e = .returned (.tuple #[v1, v2, .int .i64 (k : Int)]) ∧ SO w' w.heap.size v1 (R.map bs) ∧ OO w' w.heap.size v2 P ∧ Gr w w'
theorem drops_at (x : Int) (a : Nat) (hx : x = a) (p : ByteArray) (hp : p.size ≤ 1000) (n : Nat) (ha : a ≤ 1000000000) (hn : n ≤ 1000000000) (w : World) :
    Calls Tryz.prog 144 #[.string p, .int .i64 x, .int .i64 (n : Int)] w fun e w' => RetOps (dropsO p a n) w e w' := by
  subst hx; exact drops_any p hp a n ha hn w
theorem dropsO_len (p : ByteArray) (a : Nat) : ∀ t, (dropsO p a t).length ≤ t
  | 0 => Nat.le_refl _
  | t + 1 => by
    by_cases h : a ≤ t
    · rw [dropsO_in h, List.length_cons]
      have := dropsO_len p a t
      omega
    · rw [dropsO_out (by omega)]
      exact Nat.zero_le _
theorem so_grown {W w' : World} {B : Nat} {v vo : Value} {L : List ByteArray} {ops : List O} (hs : SO W B v L) (ho : OO W B vo ops) (hg : W.grownBy w' vo.ownBlock) : SO w' B v L := by
  refine World.ownsRow.kept hs hg ?_
  cases h : v.ownBlock with
  | none => exact .inl rfl
  | some b => exact .inr (fun e => own_types hs ho (by decide) h e.symm)
structure OPInv (p : ByteArray) (S : List F) (k : Nat) (v : Value) (R : List (List UInt8)) (w2 wr : World) : Prop where
  hk : k ≤ S.length
  e1 : (openS p S.length 0 S).1 = R ++ (openS p S.length k (S.drop k)).1
  e2 : (openS p S.length 0 S).2 = (openS p S.length k (S.drop k)).2
  len : R.length ≤ k * 131072
  own : SO wr w2.heap.size v (R.map bs)
  g2 : Gr w2 wr
def OPRel (p : ByteArray) (S : List F) (w2 : World) (v i : Value) (wr : World) : Prop := ∃ (k : Nat) (R : List (List UInt8)), i = .int .i64 (k : Int) ∧ OPInv p S k v R w2 wr
theorem op_torn {p : ByteArray} {S : List F} {k : Nat} {v : Value} {R : List (List UInt8)} {w2 wr : World} (h : OPInv p S k v R w2 wr) (hk : k < S.length) {f : F} (hf : f = S[k]) (ht : tornF f) : openS p S.length 0 S = (R ++ recsF f, dropsO p (k + 1) S.length ++ [cutO p k (bytesOf (recsF f))]) := by
  have e1 := h.e1
  have e2 := h.e2
  rw [List.drop_eq_getElem_cons hk, ← hf, openS_torn ht] at e1 e2
  exact Prod.ext e1 e2
theorem op_whole {p : ByteArray} {S : List F} {k : Nat} {v v' : Value} {R : List (List UInt8)} {w2 wr w4 : World} (h : OPInv p S k v R w2 wr) (hk : k < S.length) {f : F} (hf : f = S[k]) (hs : f.size ≤ 1048576) (ht : ¬ tornF f) (hown : SO w4 w2.heap.size v' (R.map bs ++ (recsF f).map bs)) (g : Gr w2 w4) : OPInv p S (k + 1) v' (R ++ recsF f) w2 w4 := by
  have e1 := h.e1
  have e2 := h.e2
  rw [List.drop_eq_getElem_cons hk, ← hf, openS_whole ht] at e1 e2
  refine ⟨hk, by rw [List.append_assoc]; exact e1, e2, ?_, by rw [List.map_append]; exact hown, g⟩
  have := h.len
  have := recs_few hs
  rw [List.length_append, Nat.succ_mul]
  omega
theorem op_end {p : ByteArray} {S : List F} {k : Nat} {v : Value} {R : List (List UInt8)} {w2 wr : World} (h : OPInv p S k v R w2 wr) (hk : ¬ k < S.length) : openS p S.length 0 S = (R, []) := by
  have e1 := h.e1
  have e2 := h.e2
  rw [List.drop_of_length_le (by omega)] at e1 e2
  refine Prod.ext (e1.trans ?_) e2
  exact List.append_nil _

set_option maxRecDepth 100000 in
set_option maxHeartbeats 4000000 in
theorem open_yes (v : Value) (L : List F) (p : ByteArray) (w : World) (hv : FV w v L) (hp : prefixB p = true) (hf : Fit L) (hsm : ∀ f ∈ segL L p, f.size ≤ 1048576) (hlen : L.length * 48 ≤ 140737488355328) (hH : Halves w) :
    Calls Tryz.prog 113 #[.agg #[v], .string p] w fun e w' => RetOpen (openW L p).1 (openW L p).2 0 w e w' := by
  have hps := prefix_size hp
  have h1 := fun w => prefix_any p (by omega) w
  rw [hp] at h1
  have H1 := Lib.hid h1
  have H2 := Lib.hid (fun w1 (g : Gr w w1) => segments_any v L p w1 (hv.gr g) (by omega) hf (by omega))
  have hsn := (segN_is L p).le.2
  have hl := segL_len L p
  obtain ⟨S, hS⟩ : ∃ S, S = segL L p := ⟨_, rfl⟩
  have hfit : ∀ f ∈ S, FitF f := fun f hfs => hf f (segL_mem (by rw [← hS]; exact hfs))
  have hop : openW L p = openS p S.length 0 S := by unfold openW; rw [← hS]
  rw [← hS] at hsm H2 hl
  rw [← hl] at hsn
  rw [hop]
  have HSM := Lib.hid hsm
  have HFit := Lib.hid hfit
  have HH := Lib.hid hH
  obtain ⟨n, hn⟩ : ∃ n, n = S.length := ⟨_, rfl⟩
  have HN := Lib.hid hn
  rw [← hn] at hsn
  obtain ⟨A, c, rfl, -⟩ := hv
  have HG := Lib.hid (gr_box w (.cells #[.slice A L.length c] 24))
  clear h1 hp hl hn hf hsm hfit hH hop hS
  go_enter Tryz.func113, Tryz.ntmps113
  go_wp2_with fail
  refine (H1.out _).mono ?_
  rintro e w1 ⟨rfl, rfl⟩
  go_wp2_with fail
  refine (H2.out _ HG.out).mono ?_
  rintro e w2 ⟨v2, rfl, hown, g2⟩
  obtain ⟨A2, c2, hv2, hc1, hc2⟩ := hown.form
  rw [← HN.out] at hv2 hc1
  subst hv2
  have HO2 := Lib.hid hown
  have HG2 := Lib.hid (HG.out.trans g2)
  clear hown g2
  go_wp2_with fail
  go_loopw [8, 23] (fun v i wr => OPRel p S w2 v i wr) (fun _ i _ => n - (intOf i).toNat)
  case atStart => exact ⟨0, [], rfl, Nat.zero_le _, rfl, rfl, Nat.zero_le _, SO.nil _ _, Gr.refl _⟩
  case round =>
    obtain ⟨k, R, rfl, inv⟩ := hrel
    have HI := Lib.hid inv
    have hk : k ≤ n := by rw [HN.out]; exact inv.hk
    clear inv
    by_cases hlt : k < n
    · have hkS : k < S.length := by rw [← HN.out]; exact hlt
      obtain ⟨g, c2', hvv⟩ := HO2.out.addr hkS
      injection hvv with e1 e2 e3
      subst e1 e3
      clear e2
      obtain ⟨q0, q1, q2⟩ := HO2.out.at_ hkS
      have hfit := HFit.out _ (List.getElem_mem hkS)
      have hsz := HSM.out _ (List.getElem_mem hkS)
      obtain ⟨f, hf⟩ : ∃ f, f = S[k] := ⟨_, rfl⟩
      rw [← hf] at q0 q1 q2 hfit hsz
      have c0 := HI.out.g2.cell q0
      have c1 := HI.out.g2.cell q1
      have c2 := HI.out.g2.cell q2
      have hrf := recs_few hsz
      have hss : (f.kept ++ f.loose).size = f.size := by rw [ByteArray.size_append]; rfl
      have hss2 : f.kept.size + f.loose.size ≤ 1048576 := hsz
      have hl1 := HI.out.len
      obtain ⟨W3, hW3, G3, x0, x1, x2⟩ := sbox f wr
      have hGW : Gr w W3 := (HG2.out.trans HI.out.g2).trans G3
      have H3 := Lib.hid (show Calls Tryz.prog 143 #[.string (f.kept ++ f.loose)] W3 fun e w' => RetSVInt ((recsF f).map bs) (bytesOf (recsF f)) W3 e w' from scan_any (f.kept ++ f.loose) (by omega) (by show (recsF f).length * 16 ≤ _; omega) W3 (HH.out.gr hGW))
      have hble := recs_le f
      obtain ⟨m, hm⟩ : ∃ m, m = bytesOf (recsF f) := ⟨_, rfl⟩
      have hdec : tornF f ↔ m < f.size := by unfold tornF; rw [fbytes_len, hm]
      obtain ⟨fs, hfs⟩ : ∃ s, s = f.size := ⟨_, rfl⟩
      rw [← hm] at H3 hble
      have hcat : f.kept.size + f.loose.size = fs := by rw [hfs]; rfl
      rw [← hfs] at hdec hss hble hsz
      have HM := Lib.hid hm
      have HF := Lib.hid hf
      have HFS := Lib.hid hfs
      have HDC := Lib.hid hdec
      have HGW := Lib.hid hGW
      have HSS := Lib.hid hss
      clear q0 q1 q2 hfit hf hss hss2 hm hdec hfs hGW
      go_wp2_with fail
      rw [← hW3]
      clear hW3
      refine H3.out.mono ?_
      rintro e w4 ⟨v4, rfl, hown4, g4⟩
      have HG24 := Lib.hid ((HI.out.g2.trans G3).trans g4)
      have HO4 : Hid (SV w4 v4 ((recsF f).map bs)) := Lib.hid (SO.sv hown4)
      have HOR := Lib.hid (HI.out.own.gr (G3.trans g4))
      clear hown4 g4 G3 x0 x1 x2 c0 c1 c2
      by_cases ht : tornF f
      · have hms := HDC.out.1 ht
        have HT := Lib.hid (op_torn HI.out hkS HF.out ht)
        rw [← HN.out, ← HM.out] at HT
        have ht1 : (m : Int) < ((f.kept ++ f.loose).size : Int) := by rw [HSS.out]; omega
        have ht2 : (m : Int) < (f.kept.size : Int) + (f.loose.size : Int) := by omega
        have H5 := Lib.hid (fun w => drops_at ((k : Int) + 1) (k + 1) rfl p (by omega) n (by omega) (by omega) w)
        have H6 := Lib.hid (fun w => wname_any p (by omega) k (by omega) w)
        have hdl := dropsO_len p (k + 1) n
        clear ht
        go_wp2_with (at_builtin; refine wpList_push_strs (w0 := w2) rfl (.tmp 38) (.tmp 39) rfl _ _ _ _ rfl HOR.out rfl HO4.out (by rw [List.length_map, List.length_map]; omega) HG24.out ?_; intro A5 c5 w5 hown5 g5 k5)
        rw [List.length_map, List.length_map] at hown5
        have HO5 := Lib.hid hown5
        have HG5 := Lib.hid g5
        clear hown5 g5
        refine (H5.out _).mono ?_
        rintro e w6 ⟨v6, rfl, hown6, g6⟩
        have HO6 := Lib.hid (hown6.le HG5.out.size)
        have HO56 := Lib.hid (HO5.out.gr g6)
        have HG6 := Lib.hid (HG5.out.trans g6)
        clear hown6 g6
        go_wp2_with fail
        refine (H6.out _).mono ?_
        rintro e w7 ⟨rfl, g7⟩
        have HO7 := Lib.hid (HO6.out.gr g7)
        have HO57 := Lib.hid (HO56.out.gr g7)
        have HG7 := Lib.hid (HG6.out.trans g7)
        clear g7
        go_wp2_with (at_builtin; refine wpList_push_op (w0 := w2) rfl (.tmp 52) (.tmp 58) rfl _ (dropsO p (k + 1) n) (cutO p k m) rfl HO7.out _ rfl rfl (by omega) HG7.out ?_; intro A8 c8 w8 hown8 g8 k8)
        have HSO := Lib.hid (so_grown (HO57.out.gr (gr_box w7 _)) (HO7.out.gr (gr_box w7 _)) k8)
        have HO8 := Lib.hid hown8
        have HG8 := Lib.hid g8
        clear hown8 g8 k8
        refine bodyPost_ret (v := .tuple #[.slice A5 (R.length + (recsF f).length) c5, .slice A8 ((dropsO p (k + 1) n).length + 1) c8, .int .i64 0]) (by simp [results, Tryz.results113, go_sem]) rfl ⟨_, _, rfl, ?_, ?_, HG2.out.trans HG8.out⟩
        · rw [← HN.out, HT.out, List.map_append]
          exact HSO.out.le HG2.out.size
        · rw [← HN.out, HT.out]
          exact HO8.out.le HG2.out.size
      · have hms : ¬ m < fs := fun h => ht (HDC.out.2 h)
        have ht1 : ¬ (m : Int) < ((f.kept ++ f.loose).size : Int) := by rw [HSS.out]; omega
        have ht2 : ¬ (m : Int) < (f.kept.size : Int) + (f.loose.size : Int) := by omega
        have HT := Lib.hid (fun w5 v5 ho g => op_whole (v' := v5) (w4 := w5) HI.out hkS HF.out (by rw [← HFS.out]; exact hsz) ht ho g)
        clear ht
        go_wp2_with (at_builtin; refine wpList_push_strs (w0 := w2) rfl (.tmp 38) (.tmp 39) rfl _ _ _ _ rfl HOR.out rfl HO4.out (by rw [List.length_map, List.length_map]; omega) HG24.out ?_; intro A5 c5 w5 hown5 g5 k5)
        rw [List.length_map, List.length_map] at hown5
        have H5 := Lib.hid (HT.out _ _ hown5 g5)
        clear hown5 g5 k5
        go_roundw
        case rel => exact ⟨k + 1, R ++ recsF f, by go_num, H5.out⟩
        case measure => simp [intOf]; omega
    · have HT := Lib.hid (op_end HI.out (by rw [← HN.out]; exact hlt))
      go_wp2_with fail
      refine bodyPost_ret (v := .tuple #[_, .slice none 0 0, .int .i64 0]) (by simp [results, Tryz.results113, go_sem]; rfl) rfl ⟨_, _, rfl, ?_, ?_, HG2.out.trans HI.out.g2⟩
      · rw [HT.out]
        exact HI.out.own.le HG2.out.size
      · rw [HT.out]
        exact OO.nil _ _
theorem open_no (v : Value) (p : ByteArray) (w : World) (hp : prefixB p = false) (hps : p.size ≤ 9223372036854775807) (hv : ∃ A n c, v = .slice A n c) :
    Calls Tryz.prog 113 #[.agg #[v], .string p] w fun e w' => RetOpen [] [] 1 w e w' := by
  have h1 := fun w => prefix_any p hps w
  rw [hp] at h1
  have H1 := Lib.hid h1
  obtain ⟨A, n, c, rfl⟩ := hv
  have HG := Lib.hid (gr_box w (.cells #[.slice A n c] 24))
  clear h1 hp
  go_enter Tryz.func113, Tryz.ntmps113
  go_wp2_with fail
  refine (H1.out _).mono ?_
  rintro e w1 ⟨rfl, rfl⟩
  go_wp2_with fail
  refine bodyPost_ret (v := .tuple #[.slice none 0 0, .slice none 0 0, .int .i64 1]) (by simp [results, Tryz.results113, go_sem]) rfl ⟨_, _, rfl, SO.nil _ _, OO.nil _ _, HG.out⟩
end Go.Proofs.YtlnhbndghnkfmaaGreatDoor
