/- Walks: the segments of a log, the program's. Rows of operations: what they read as. Walks: plans of operations: what writes a record, what drops segments. -/
import Derived.Test.YtlnhbndghnkfmaaGreatDoorZm04
import Derived.Test.YtlnhbndghnkfmaaGreatDoorZm12
namespace Go.Proofs.YtlnhbndghnkfmaaGreatDoor
open Go.RowKit

theorem made_seg (n : Nat) : (madeCells #[.string ⟨#[]⟩, .string ⟨#[]⟩, .string ⟨#[]⟩] (n * 3)).toList = fcells (List.replicate n zeroF) := by
  apply List.ext_getElem?
  intro j
  by_cases hj : j < n * 3
  · have hq : j / 3 < n := by omega
    have hr := Nat.mod_lt j (show 0 < 3 by decide)
    have hd : j / 3 * 3 + j % 3 = j := by omega
    have hs : (fcells (List.replicate n zeroF))[j]? = (fcell zeroF)[j % 3]? := by
      have := rows_at fcell 3 fcell_len (List.replicate n zeroF) (j / 3) (j % 3) (by rw [List.length_replicate]; exact hq) hr
      rw [hd, List.getElem_replicate] at this
      exact this
    rw [hs]
    have : (madeCells #[Value.string ⟨#[]⟩, .string ⟨#[]⟩, .string ⟨#[]⟩] (n * 3)).toList[j]? = some (#[Value.string ⟨#[]⟩, .string ⟨#[]⟩, .string ⟨#[]⟩][j % 3]!) := by
      simp [madeCells, hj]
    rw [this]
    match j % 3, hr with
    | 0, _ => rfl
    | 1, _ => rfl
    | 2, _ => rfl
  · rw [List.getElem?_eq_none, List.getElem?_eq_none]
    · rw [fcells_len, List.length_replicate]; omega
    · simp [madeCells]; omega
theorem make_seg (n : Nat) (hn : n * 48 ≤ 281474976710656) : ∃ M0 : Array Value, M0.toList = fcells (List.replicate n zeroF) ∧ M0.size = n * 3 ∧
    ∀ W : World, (Instr.makeSlice 22 (.int .i64 (n : Int)) (.int .i64 (n : Int))).run Tryz.prog W = .ok (.slice (some ⟨W.heap.size, 0, none⟩) n n) (W.alloc (.cells M0 63)) := by
  obtain ⟨i0, hi, hz0, hz1, hz2⟩ := info_parts infoFile
  refine ⟨madeCells #[.string ⟨#[]⟩, .string ⟨#[]⟩, .string ⟨#[]⟩] (n * 3), made_seg n, by simp [madeCells], fun W => ?_⟩
  have h := run_make (P := Tryz.prog) W 22 63 i0 _ Tryz.underlying22 hi hz0 .i64 .i64 (n : Int) (n : Int) (by omega) (by omega) (by rw [hz2]; omega) (by omega)
  rw [hz1, Int.toNat_natCast] at h
  exact h
/-- The places behind the first k files. -/
structure SGInv (L : List F) (p : ByteArray) (n k : Nat) (w wr : World) : Prop where
  hk : k ≤ n
  row : FO wr (w.heap.size + 1) (.slice (some ⟨w.heap.size + 1, 0, none⟩) n n) (logAt (L.take k) p n)
  gr : Gr w wr
  lo : w.heap.size + 1 < wr.heap.size
def SGRel (L : List F) (p : ByteArray) (n : Nat) (w : World) (i : Value) (wr : World) : Prop := ∃ k : Nat, i = .int .i64 (k : Int) ∧ SGInv L p n k w wr
theorem sg_skip {L : List F} {p : ByteArray} {n k : Nat} {w wr w4 : World} (h : SGInv L p n k w wr) (hn : n = L.length) (hk : k < L.length) {f : F} (hf : f = L[k]) (hs : ∀ i, numW p f.name = some i → i < n → segO (L.take k) p i ≠ none) (g : Gr wr w4) : SGInv L p n (k + 1) w w4 := by
  refine ⟨by omega, ?_, h.gr.trans g, Nat.lt_of_lt_of_le h.lo g.size⟩
  rw [List.take_succ_eq_append_getElem hk, ← hf, logAt_not hs]
  exact h.row.gr g
theorem sg_put {L : List F} {p : ByteArray} {n k i : Nat} {w wr w4 : World} (h : SGInv L p n k w wr) (hn : n = L.length) (hk : k < L.length) {f : F} (hf : f = L[k]) (hi : numW p f.name = some i) (hin : i < n) (hs : segO (L.take k) p i = none) (g : Gr wr w4) :
    SGInv L p n (k + 1) w (((w4.setCell ⟨w.heap.size + 1, i * 3, none⟩ (.string f.name)).setCell ⟨w.heap.size + 1, i * 3 + 1, none⟩ (.string f.kept)).setCell ⟨w.heap.size + 1, i * 3 + 2, none⟩ (.string f.loose)) := by
  have hlo := h.lo
  refine ⟨by omega, ?_, Below.setCell (Below.setCell (Below.setCell (h.gr.trans g) (p := ⟨w.heap.size + 1, i * 3, none⟩) (show w.heap.size ≤ w.heap.size + 1 by omega) _) (p := ⟨w.heap.size + 1, i * 3 + 1, none⟩) (show w.heap.size ≤ w.heap.size + 1 by omega) _) (p := ⟨w.heap.size + 1, i * 3 + 2, none⟩) (show w.heap.size ≤ w.heap.size + 1 by omega) _, by have := g.size; simp [World.setCell]; omega⟩
  rw [List.take_succ_eq_append_getElem hk, ← hf, logAt_put hi hs]
  exact (h.row.gr g).put3 (by rw [logAt_len]; exact hin) f
/-- The places, up to the first that is free. -/
structure SHInv (L : List F) (p : ByteArray) (n k : Nat) (w wr : World) : Prop where
  hk : k ≤ n
  all : ∀ i, i < k → segO L p i ≠ none
  row : FO wr (w.heap.size + 1) (.slice (some ⟨w.heap.size + 1, 0, none⟩) n n) (logAt L p n)
  gr : Gr w wr
  lo : w.heap.size + 1 < wr.heap.size
def SHRel (L : List F) (p : ByteArray) (n : Nat) (w : World) (i : Value) (wr : World) : Prop := ∃ k : Nat, i = .int .i64 (k : Int) ∧ SHInv L p n k w wr
theorem sh_start {L : List F} {p : ByteArray} {n k : Nat} {w wr : World} (h : SGInv L p n k w wr) (hn : n = L.length) (hk : ¬ k < n) : SHInv L p n 0 w wr := by
  have := h.hk
  have hr := h.row
  rw [List.take_of_length_le (by omega)] at hr
  exact ⟨Nat.zero_le _, fun i hi => absurd hi (Nat.not_lt_zero _), hr, h.gr, h.lo⟩
theorem sh_step {L : List F} {p : ByteArray} {n k : Nat} {w wr w4 : World} (h : SHInv L p n k w wr) (hk : k < n) (hs : segO L p k ≠ none) (g : Gr wr w4) : SHInv L p n (k + 1) w w4 :=
  ⟨hk, fun i hi => by
    rcases Nat.lt_or_ge i k with e | e
    · exact h.all i e
    · obtain rfl : i = k := by omega
      exact hs, h.row.gr g, h.gr.trans g, Nat.lt_of_lt_of_le h.lo g.size⟩
theorem sh_end {L : List F} {p : ByteArray} {n k : Nat} {w wr w4 : World} (h : SHInv L p n k w wr) (hn : n = L.length) (hk : ¬ k < n) (g : Gr wr w4) : FO w4 w.heap.size (.slice (some ⟨w.heap.size + 1, 0, none⟩) n n) (segL L p) := by
  have := h.hk
  have e : segN L p = L.length := segN_eq (seg_all (fun i hi => h.all i (by omega)))
  have : segL L p = logAt L p n := by
    rw [segL_take, e, ← hn, List.take_of_length_le (by rw [logAt_len]; exact Nat.le_refl _)]
  rw [this]
  exact (h.row.gr g).le (by omega)
theorem sh_found {L : List F} {p : ByteArray} {n k : Nat} {w wr w4 : World} (h : SHInv L p n k w wr) (hn : n = L.length) (hs : segO L p k = none) (g : Gr wr w4) : FO w4 w.heap.size (.slice (some ⟨w.heap.size + 1, 0, none⟩) k n) (segL L p) := by
  have e : segN L p = k := segN_eq ⟨h.all, hs⟩
  have hl : (segL L p).length = k := by rw [segL_len, e]
  have hr := (h.row.gr g).le (show w.heap.size ≤ w.heap.size + 1 by omega)
  unfold FO at hr
  rw [logAt_len] at hr
  have hp := own_prefix hr (k := k) h.hk
  unfold FO
  rw [hl]
  have e2 : fcells (segL L p) = (fcells (logAt L p n)).take (k * 3) := by
    rw [segL_take, e, ← hn]
    exact (rows_take fcell 3 fcell_len _ _).symm
  rw [e2]
  exact hp
theorem sbox (f : F) (wr : World) : ∃ W3, W3 = wr.alloc (.cells #[.string f.name, .string f.kept, .string f.loose] 63) ∧ Gr wr W3 ∧
    W3.cell? ⟨wr.heap.size, 0, none⟩ = some (.string f.name) ∧ W3.cell? ⟨wr.heap.size, 1, none⟩ = some (.string f.kept) ∧ W3.cell? ⟨wr.heap.size, 2, none⟩ = some (.string f.loose) :=
  ⟨_, rfl, gr_box wr _, by simp, by simp, by simp⟩
theorem slot_some {o : Option F} {f : F} (h : o = some f) : o.getD zeroF = f := by rw [h]; rfl
theorem slot_none {o : Option F} (h : o = none) : o.getD zeroF = zeroF := by rw [h]; rfl

set_option maxRecDepth 100000 in
set_option maxHeartbeats 4000000 in
theorem segments_any (v : Value) (L : List F) (p : ByteArray) (w : World) (hv : FV w v L) (hp : p.size ≤ 1000) (hf : Fit L) (hlen : L.length * 48 ≤ 281474976710656) :
    Calls Tryz.prog 138 #[.agg #[v], .string p] w fun e w' => RetFiles (segL L p) w e w' := by
  obtain ⟨A, c, rfl, l1, ⟨l2, _⟩, l3⟩ := hv
  have hc63 : c ≤ 9223372036854775807 := l2
  have HA := Lib.hid l3
  have HFit := Lib.hid hf
  obtain ⟨n, hn⟩ : ∃ n, n = L.length := ⟨_, rfl⟩
  rw [← hn] at l1 hlen ⊢
  have HN := Lib.hid hn
  clear l3 l2 hn hf
  obtain ⟨M0, hM1, hM2, hmk⟩ := make_seg n hlen
  have HST : Hid (SGRel L p n w (.int .i64 0) ((w.alloc (.cells #[.slice A n c] 24)).alloc (.cells M0 63))) := by
    refine ⟨0, rfl, Nat.zero_le _, ?_, (gr_box w _).alloc _, (by simp)⟩
    have h := World.ownsRow_lit (base := w.heap.size + 1) (e := 63) (size := 3) (w.alloc (.cells #[.slice A n c] 24)) M0 n (by simp) (by unfold maxLen; omega) hM2
    rw [hM1] at h
    rw [List.take_zero, logAt_nil]
    unfold FO
    rw [List.length_replicate]
    simpa using h
  clear hM1 hM2
  go_enter Tryz.func138, Tryz.ntmps138
  go_wp2_with fail
  clear hmk
  go_loopw [19] (fun i wr => SGRel L p n w i wr) (fun i _ => n - (intOf i).toNat)
  case atStart => exact HST.out
  case round =>
    obtain ⟨k, rfl, inv⟩ := hrel
    have HI := Lib.hid inv
    have hk : k ≤ n := inv.hk
    clear inv HST
    by_cases hlt : k < n
    · have hkL : k < L.length := by rw [← HN.out]; exact hlt
      obtain ⟨b, off, rfl, q0, q1, q2⟩ := HA.out k hkL
      have c0 := HI.out.gr.cell q0
      have c1 := HI.out.gr.cell q1
      have c2 := HI.out.gr.cell q2
      have hfit := HFit.out _ (List.getElem_mem hkL)
      unfold FitF at hfit
      have hs := hfit.1
      obtain ⟨f, hf⟩ : ∃ f, f = L[k] := ⟨_, rfl⟩
      rw [← hf] at c0 c1 c2 hs
      have HF := Lib.hid hf
      obtain ⟨W3, hW3, G3, x0, x1, x2⟩ := sbox f wr
      have H1 := Lib.hid (number_any p f.name hp (by omega) W3)
      have HSK := Lib.hid (fun hs => sg_skip (w4 := W3) HI.out HN.out hkL hf hs G3)
      clear q0 q1 q2 hfit hf hs
      go_wp2_with fail
      rw [← hW3]
      clear hW3
      rcases hnum : numW p f.name with _ | j
      · have H2 : Hid (SGInv L p n (k + 1) w W3) := Lib.hid (HSK.out (fun i hi => by rw [hnum] at hi; cases hi))
        rw [hnum] at H1
        have H3 : Hid (Calls Tryz.prog 170 #[.string p, .string f.name] W3 fun e w' => e = .returned (.tuple #[.int .i64 0, .bool false]) ∧ W3 = w') := H1
        clear hnum
        refine H3.out.mono ?_
        rintro e w1 ⟨rfl, rfl⟩
        go_wp2_with fail
        go_roundw
        case rel => exact ⟨k + 1, by go_num, H2.out⟩
        case measure => simp [intOf]; omega
      · rw [hnum] at H1
        have H3 : Hid (Calls Tryz.prog 170 #[.string p, .string f.name] W3 fun e w' => e = .returned (.tuple #[.int .i64 (j : Int), .bool true]) ∧ W3 = w') := H1
        have hj6 : j < 1000000 := ((num_iff _ _ _).1 hnum).1
        by_cases hjn : j < n
        · rcases hso : segO (L.take k) p j with _ | x
          · have hrow := HI.out.row.gr G3
            have hat := hrow.at_ (j := j) (by rw [logAt_len]; exact hjn)
            rw [logAt_at, slot_none hso] at hat
            obtain ⟨r0, r1, r2⟩ := hat
            obtain ⟨xn, hxn⟩ : ∃ y, y = zeroF.name := ⟨_, rfl⟩
            have he : xn.toList = [] := size_empty.2 (by rw [hxn]; rfl)
            rw [← hxn] at r0
            have z0 := hrow.free (j * 3)
            have z1 := hrow.free (j * 3 + 1)
            have z2 := hrow.free (j * 3 + 2)
            have H2 := Lib.hid (sg_put HI.out HN.out hkL HF.out hnum hjn hso G3)
            clear hnum hso hrow hxn
            refine H3.out.mono ?_
            rintro e w1 ⟨rfl, rfl⟩
            go_wp2_with fail
            go_roundw
            case rel => exact ⟨k + 1, by go_num, H2.out⟩
            case measure => simp [intOf]; omega
          · have hrow := HI.out.row.gr G3
            have hat := hrow.at_ (j := j) (by rw [logAt_len]; exact hjn)
            rw [logAt_at, slot_some hso] at hat
            obtain ⟨r0, -, -⟩ := hat
            have H2 : Hid (SGInv L p n (k + 1) w W3) := Lib.hid (HSK.out (fun i hi _ => by rw [hnum] at hi; injection hi with hi; subst hi; rw [hso]; exact Option.some_ne_none _))
            obtain ⟨xn, hxn⟩ : ∃ y, y = x.name := ⟨_, rfl⟩
            have he : xn.toList.isEmpty = false := by
              cases hq : xn.toList with
              | nil =>
                have := size_empty.1 hq
                rw [hxn, (segO_name hso).2.1, nameW_size] at this
                omega
              | cons a b => rfl
            rw [← hxn] at r0
            clear hnum hso hrow hxn
            refine H3.out.mono ?_
            rintro e w1 ⟨rfl, rfl⟩
            go_wp2_with fail
            go_roundw
            case rel => exact ⟨k + 1, by go_num, H2.out⟩
            case measure => simp [intOf]; omega
        · have H2 : Hid (SGInv L p n (k + 1) w W3) := Lib.hid (HSK.out (fun i hi hin => by rw [hnum] at hi; injection hi with hi; omega))
          clear hnum
          refine H3.out.mono ?_
          rintro e w1 ⟨rfl, rfl⟩
          go_wp2_with fail
          go_roundw
          case rel => exact ⟨k + 1, by go_num, H2.out⟩
          case measure => simp [intOf]; omega
    · have HS2 := Lib.hid (sh_start HI.out HN.out hlt)
      clear HI HA
      go_wp2_with fail
      go_loopw [52] (fun i wr => SHRel L p n w i wr) (fun i _ => n - (intOf i).toNat)
      case atStart => exact ⟨0, rfl, HS2.out⟩
      case round =>
        obtain ⟨k', rfl, inv⟩ := hrel
        have HI := Lib.hid inv
        have hk' : k' ≤ n := inv.hk
        clear inv HS2
        by_cases hlt2 : k' < n
        · have hat := HI.out.row.at_ (j := k') (by rw [logAt_len]; exact hlt2)
          rw [logAt_at] at hat
          obtain ⟨f, hf⟩ : ∃ f, f = (segO L p k').getD zeroF := ⟨_, rfl⟩
          rw [← hf] at hat
          obtain ⟨r0, r1, r2⟩ := hat
          rcases hso : segO L p k' with _ | x
          · have he : f.name.toList = [] := size_empty.2 (by rw [hf, hso]; rfl)
            have hsl := slice_to n n k' hk' (some ⟨w.heap.size + 1, 0, none⟩)
            have H2 := Lib.hid (sh_found HI.out HN.out hso (gr_box _ (.cells #[.string f.name, .string f.kept, .string f.loose] 63)))
            have HG := Lib.hid (HI.out.gr.alloc (.cells #[.string f.name, .string f.kept, .string f.loose] 63))
            clear hso hf
            go_wp2_with fail
            go_ret
            exact ⟨_, rfl, H2.out, HG.out⟩
          · have he : f.name.toList.isEmpty = false := by
              cases hq : f.name.toList with
              | nil =>
                have := size_empty.1 hq
                rw [hf, slot_some hso, (segO_name hso).2.1, nameW_size] at this
                omega
              | cons a b => rfl
            have H2 := Lib.hid (sh_step HI.out hlt2 (by rw [hso]; exact Option.some_ne_none _) (gr_box _ (.cells #[.string f.name, .string f.kept, .string f.loose] 63)))
            clear hso hf
            go_wp2_with fail
            go_roundw
            case rel => exact ⟨k' + 1, by go_num, H2.out⟩
            case measure => simp [intOf]; omega
        · have H2 := Lib.hid (sh_end HI.out HN.out hlt2 (Gr.refl _))
          have HG := Lib.hid HI.out.gr
          go_wp2_with fail
          go_ret
          exact ⟨_, rfl, H2.out, HG.out⟩
end Go.Proofs.YtlnhbndghnkfmaaGreatDoor
namespace Go.Proofs.YtlnhbndghnkfmaaGreatDoor
open Go.RowKit

def ocell (o : O) : List Value := [.int .i64 o.kind, .string o.name, .string o.bytes, .int .i64 o.at_]
theorem ocell_len (o : O) : (ocell o).length = 4 := rfl
def ocells (ops : List O) : List Value := ops.flatMap ocell
theorem OV.of_sl {w : World} {v : Value} {ops : List O} {n : Nat} (h : SL w 4 v n (ocells ops)) : OV w v ops := by
  obtain ⟨A, c, hv, h1, ⟨h2, h2'⟩, h3, h4⟩ := h
  have hn : ops.length = n := by
    have := rows_len ocell 4 ocell_len ops
    unfold ocells at h3
    omega
  subst hn
  refine ⟨A, c, hv, h1, ⟨h2, h2'⟩, fun j hj => ?_⟩
  have at_ : ∀ r, r < 4 → (ocells ops)[j * 4 + r]? = (ocell ops[j])[r]? := fun r hr => rows_at ocell 4 ocell_len ops j r hj hr
  obtain ⟨b, off, ha, c0⟩ := h4 (j * 4 + 0) _ (at_ 0 (by decide))
  have g : ∀ r u, r < 4 → (ocell ops[j])[r]? = some u → w.cell? ⟨b, off + j * 4 + r, none⟩ = some u := fun r u hr hu => by
    obtain ⟨b', off', ha', c'⟩ := h4 (j * 4 + r) u (by rw [at_ r hr]; exact hu)
    rw [ha] at ha'
    injection ha' with ha'
    injection ha' with e1 e2
    subst e1 e2
    rw [Nat.add_assoc]
    exact c'
  exact ⟨b, off, ha, g 0 _ (by decide) rfl, g 1 _ (by decide) rfl, g 2 _ (by decide) rfl, g 3 _ (by decide) rfl⟩
theorem OV.sl {w : World} {v : Value} {ops : List O} (h : OV w v ops) : SL w 4 v ops.length (ocells ops) := by
  obtain ⟨A, c, hv, h1, h2, h3⟩ := h
  refine ⟨A, c, hv, h1, h2, rows_len ocell 4 ocell_len ops, fun j u hj => ?_⟩
  obtain ⟨q, r, hq, hr, rfl, hu⟩ := rows_of ocell 4 ocell_len (by decide) ops j u hj
  obtain ⟨b, off, ha, c0, c1, c2, c3⟩ := h3 q hq
  refine ⟨b, off, ha, ?_⟩
  rw [← Nat.add_assoc]
  match r, hr with
  | 0, _ => injection hu with hu; rw [← hu]; exact c0
  | 1, _ => injection hu with hu; rw [← hu]; exact c1
  | 2, _ => injection hu with hu; rw [← hu]; exact c2
  | 3, _ => injection hu with hu; rw [← hu]; exact c3
theorem infoOp : (Tryz.prog.info? 72).map (fun i => (i.zero, i.size, i.bytes)) = some (some (.agg #[.int .i64 0, .string ⟨#[]⟩, .string ⟨#[]⟩, .int .i64 0]), 4, 48) := by kernel_rfl
theorem ocells_one (ops : List O) : ∀ u ∈ ocells ops, u.oneCell' = true := by
  intro u hu
  obtain ⟨o, _, hu⟩ := List.mem_flatMap.1 hu
  unfold ocell at hu
  simp only [List.mem_cons, List.not_mem_nil, or_false] at hu
  rcases hu with rfl | rfl | rfl | rfl <;> rfl

/-- The call owns the slice v from block B on: it reads as these operations. -/
def OO (w : World) (B : Nat) (v : Value) (ops : List O) : Prop := w.ownsRow B 72 4 v ops.length (ocells ops)
theorem OO.gr {w w' : World} {B : Nat} {v : Value} {ops : List O} (h : OO w B v ops) (g : Gr w w') : OO w' B v ops := own_gr h g
theorem OO.le {w : World} {B B' : Nat} {v : Value} {ops : List O} (h : OO w B v ops) (hb : B' ≤ B) : OO w B' v ops := own_le h hb
theorem OO.nil (w : World) (B : Nat) : OO w B (.slice none 0 0) [] := World.ownsRow_nil w B _ _
theorem OO.ov {w : World} {B : Nat} {v : Value} {ops : List O} (h : OO w B v ops) : OV w v ops := OV.of_sl (own_sl h)
theorem OO.form {w : World} {B : Nat} {v : Value} {ops : List O} (h : OO w B v ops) : ∃ A c, v = .slice A ops.length c ∧ ops.length ≤ c ∧ c ≤ 9223372036854775807 := own_form h
end Go.Proofs.YtlnhbndghnkfmaaGreatDoor
namespace Go.Proofs.YtlnhbndghnkfmaaGreatDoor
open Go.RowKit

theorem wname_at (x : Int) (n : Nat) (hx : x = n) (p : ByteArray) (hp : p.size ≤ 9223372036854775000) (hn : n ≤ 9223372036854775807) (w : World) :
    Calls Tryz.prog 141 #[.string p, .int .i64 x] w fun e w' => e = .returned (.string (nameW p n)) ∧ Gr w w' := by
  subst hx; exact wname_any p hp n hn w
/-- The frame as the document has it, appended to segment i. -/
def writeO (p : ByteArray) (i : Nat) (fr : ByteArray) : O := ⟨1, nameW p i, fr, 0⟩
def dropO (p : ByteArray) (i : Nat) : O := ⟨4, nameW p i, ⟨#[]⟩, 0⟩
def syncO (p : ByteArray) (i : Nat) : O := ⟨2, nameW p i, ⟨#[]⟩, 0⟩
def cutO (p : ByteArray) (i : Nat) (k : Nat) : O := ⟨3, nameW p i, ⟨#[]⟩, (k : Int)⟩
def ovalue (o : O) : Value := .agg #[.int .i64 o.kind, .string o.name, .string o.bytes, .int .i64 o.at_]
/-- Drop of segments below t, from a on, the last first. -/
def dropsO (p : ByteArray) (a : Nat) : Nat → List O
  | 0 => []
  | t + 1 => if a ≤ t then dropO p t :: dropsO p a t else []
theorem dropsO_in {p : ByteArray} {a t : Nat} (h : a ≤ t) : dropsO p a (t + 1) = dropO p t :: dropsO p a t := if_pos h
theorem dropsO_out {p : ByteArray} {a t : Nat} (h : t ≤ a) : dropsO p a t = [] := by
  cases t with
  | zero => rfl
  | succ t => exact if_neg (by omega)

theorem write_at (x : Int) (n : Nat) (hx : x = n) (p fr : ByteArray) (hp : p.size ≤ 9223372036854775000) (hn : n ≤ 9223372036854775807) (w : World) :
    Calls Tryz.prog 139 #[.string p, .int .i64 x, .string fr] w fun e w' => e = .returned (ovalue (writeO p n fr)) ∧ Gr w w' := by
  subst hx
  have H1 := Lib.hid (fun w => wname_any p hp n hn w)
  have HG := Lib.hid (gr_box w (.cells #[.int .i64 0, .string ⟨#[]⟩, .string ⟨#[]⟩, .int .i64 0] 72))
  go_enter Tryz.func139, Tryz.ntmps139
  go_wp2_with fail
  refine (H1.out _).mono ?_
  rintro e w1 ⟨rfl, g1⟩
  have z0 : w1.cell? ⟨w.heap.size, 0, none⟩ = some (.int .i64 0) := g1.cell (by simp)
  have z1 : w1.cell? ⟨w.heap.size, 1, none⟩ = some (.string ⟨#[]⟩) := g1.cell (by simp)
  have z2 : w1.cell? ⟨w.heap.size, 2, none⟩ = some (.string ⟨#[]⟩) := g1.cell (by simp)
  have z3 : w1.cell? ⟨w.heap.size, 3, none⟩ = some (.int .i64 0) := g1.cell (by simp)
  have y0 : w1.frozen? ⟨w.heap.size, 0, none⟩ = false := g1.frozen (by simp) (by simp)
  have y1 : w1.frozen? ⟨w.heap.size, 1, none⟩ = false := g1.frozen (by simp) (by simp)
  have y2 : w1.frozen? ⟨w.heap.size, 2, none⟩ = false := g1.frozen (by simp) (by simp)
  have y3 : w1.frozen? ⟨w.heap.size, 3, none⟩ = false := g1.frozen (by simp) (by simp)
  have G1 := HG.out.trans g1
  go_wp2
  refine bodyPost_ret (v := ovalue (writeO p n fr)) (by simp [ovalue, writeO, results, Tryz.results139, go_sem, *]) rfl ⟨rfl, ?_⟩
  exact Below.setCell (Below.setCell (Below.setCell (Below.setCell G1 (Nat.le_refl _) _) (Nat.le_refl _) _) (Nat.le_refl _) _) (Nat.le_refl _) _

def fitsB (f : F) (n : Nat) : Bool := decide (f.size = 0 ∨ (f.size : Int) ≤ 4096 - (n : Int))
theorem fits_any (f : F) (fr : ByteArray) (hf : FitF f) (hn : fr.size ≤ 9223372036854775000) (w : World) :
    Calls Tryz.prog 140 #[.agg #[.string f.name, .string f.kept, .string f.loose], .string fr] w fun e w' => e = .returned (.bool (fitsB f fr.size)) ∧ Gr w w' := by
  unfold FitF F.size at hf
  obtain ⟨hf1, hf2⟩ := hf
  obtain ⟨x, hx⟩ : ∃ x, x = f.kept := ⟨_, rfl⟩
  obtain ⟨y, hy⟩ : ∃ y, y = f.loose := ⟨_, rfl⟩
  have hb : fitsB f fr.size = decide (x.size + y.size = 0 ∨ ((x.size : Int) + (y.size : Int)) ≤ 4096 - (fr.size : Int)) := by
    unfold fitsB F.size
    rw [hx, hy, Int.natCast_add]
  rw [← hx, ← hy] at hf2 ⊢
  have HB := Lib.hid hb
  have HG := Lib.hid (gr_box w (.cells #[.string f.name, .string x, .string y] 63))
  clear hb hx hy
  by_cases h0 : x.size + y.size = 0
  · have hbb : fitsB f fr.size = true := by rw [HB.out]; exact decide_eq_true (.inl h0)
    have hz : (x.size : Int) + (y.size : Int) = 0 := by omega
    have HB2 := Lib.hid hbb
    have ht : (((x.size : Int) + (y.size : Int)) == 0) = true := by rw [hz]; rfl
    clear hbb hz h0
    go_enter Tryz.func140, Tryz.ntmps140
    go_wp2_with fail
    go_ret
    exact ⟨by rw [HB2.out]; rfl, HG.out⟩
  · have ht : (((x.size : Int) + (y.size : Int)) == 0) = false := by rw [beq_eq_false_iff_ne]; omega
    by_cases h1 : (x.size : Int) + (y.size : Int) ≤ 4096 - (fr.size : Int)
    · have HB2 := Lib.hid (HB.out.trans (decide_eq_true (.inr h1)))
      go_enter Tryz.func140, Tryz.ntmps140
      go_wp2_with fail
      go_ret
      exact ⟨by rw [HB2.out]; rfl, HG.out⟩
    · have HB2 := Lib.hid (HB.out.trans (decide_eq_false (by omega)))
      go_enter Tryz.func140, Tryz.ntmps140
      go_wp2_with fail
      go_ret
      exact ⟨by rw [HB2.out]; rfl, HG.out⟩

theorem ocells_snoc (ops : List O) (o : O) : ocells (ops ++ [o]) = ocells ops ++ ocell o := by
  unfold ocells
  rw [List.flatMap_append]
  simp
/-- append of one operation that was just laid. -/
theorem wpList_push_op {W w0 : World} {ops : Array Oper} {rest : List Oper} {o : Oper} {a : Act} {Q : Exit → Act → World → Prop} (hgd : o.guard = none) (s x : Operand)
    (ho : o.op = .call { callee := .builtin .append, args := #[s, x], argTypes := #[31, 31] })
    (v : Value) (L : List O) (o1 : O) (hs : a.eval s = v) (hown : OO W w0.heap.size v L) (H : Nat) (hH : W.heap.size = H) (hx : a.eval x = .slice (some ⟨H, 0, none⟩) 1 1) (hlen : (L.length + 1) * 48 ≤ 140737488355328) (hg : Gr w0 W)
    (h : ∀ A' c' w', OO w' w0.heap.size (.slice A' (L.length + 1) c') (L ++ [o1]) → Gr w0 w' → (W.alloc (.cells #[.int .i64 o1.kind, .string o1.name, .string o1.bytes, .int .i64 o1.at_] 72)).grownBy w' v.ownBlock → wpList Tryz.prog ops Q rest (a.put o.dst (.slice A' (L.length + 1) c')) w') :
    wpList Tryz.prog ops Q (o :: rest) a (W.alloc (.cells #[.int .i64 o1.kind, .string o1.name, .string o1.bytes, .int .i64 o1.at_] 72)) := by
  subst hH
  obtain ⟨i0, hi, hz0, hz1, hz2⟩ := info_parts infoOp
  have hown2 := own_gr hown (gr_box W (.cells #[.int .i64 o1.kind, .string o1.name, .string o1.bytes, .int .i64 o1.at_] 72))
  have hsz := hg.size
  refine wpList_append_sl _ hgd s x 31 ho w0.heap.size 72 i0 _ 4 48 Tryz.underlying31 hi hz0 hz1 hz2 rfl (by decide) v L.length (ocells L) hs hown2 (.slice (some ⟨W.heap.size, 0, none⟩) 1 1) 1 (ocell o1) hx
    (sl_new W _ _ 1 4 rfl (by unfold maxLen; omega)) (fun u hu => ocells_one [o1] u (by unfold ocells; simpa using hu)) (by unfold maxLen; omega) hlen (by simp; omega) (L.length + 1) rfl ?_
  intro A' c' w' hown' hgr _
  refine h A' c' w' ?_ (gr_of_grown (hg.alloc _) hown2 hgr (by simp; omega)) hgr
  unfold OO
  rw [List.length_append, ocells_snoc]
  exact hown'

def RetOps (L : List O) (w : World) (e : Ending) (w' : World) : Prop := ∃ v, e = .returned v ∧ OO w' w.heap.size v L ∧ Gr w w'
structure DRInv (p : ByteArray) (a hi t : Nat) (v : Value) (L : List O) (w wr : World) : Prop where
  ht : t ≤ hi
  all : L ++ dropsO p a t = dropsO p a hi
  len : L.length + t ≤ hi
  own : OO wr w.heap.size v L
  gr : Gr w wr
def DRRel (p : ByteArray) (a hi : Nat) (w : World) (v i : Value) (wr : World) : Prop := ∃ (t : Nat) (L : List O), i = .int .i64 ((t : Int) - 1) ∧ DRInv p a hi t v L w wr

set_option maxRecDepth 100000 in
set_option maxHeartbeats 1000000 in
theorem drops_any (p : ByteArray) (hp : p.size ≤ 1000) (a hi : Nat) (ha : a ≤ 1000000000) (hto : hi ≤ 1000000000) (w : World) :
    Calls Tryz.prog 144 #[.string p, .int .i64 (a : Int), .int .i64 (hi : Int)] w fun e w' => RetOps (dropsO p a hi) w e w' := by
  go_enter Tryz.func144, Tryz.ntmps144
  go_wp2_with fail
  go_loopw [7, 8] (fun v i wr => DRRel p a hi w v i wr) (fun _ i _ => (intOf i + 1).toNat)
  case atStart => exact ⟨hi, [], rfl, Nat.le_refl _, rfl, Nat.le_of_eq (Nat.zero_add _), OO.nil _ _, Gr.refl _⟩
  case round =>
    obtain ⟨t, L, rfl, inv⟩ := hrel
    have HI := Lib.hid inv
    have ht := inv.ht
    have hlen := inv.len
    clear inv
    by_cases hlt : a < t
    · obtain ⟨s, hs⟩ : ∃ s, t = s + 1 := ⟨t - 1, by omega⟩
      have hall := HI.out.all
      rw [hs, dropsO_in (by omega)] at hall
      have hall2 : (L ++ [dropO p s]) ++ dropsO p a s = dropsO p a hi := by rw [List.append_assoc]; exact hall
      have HAL := Lib.hid hall2
      have H1 := Lib.hid (fun w => wname_at ((t : Int) - 1) s (by omega) p (by omega) (by omega) w)
      have hta : (a : Int) ≤ (t : Int) - 1 := by omega
      have HS := Lib.hid hs
      clear hall hall2 hs
      go_wp2_with fail
      refine (H1.out _).mono ?_
      rintro e w1 ⟨rfl, g1⟩
      have HO := Lib.hid (HI.out.own.gr g1)
      have HG := Lib.hid (HI.out.gr.trans g1)
      go_wp2_with (at_builtin; refine wpList_push_op (w0 := w) rfl (.tmp 16) (.tmp 21) rfl _ L (dropO p s) rfl HO.out _ rfl rfl (by omega) HG.out ?_; intro A' c' w3 hown3 hgr3 _)
      have HO3 := Lib.hid hown3
      have HG3 := Lib.hid hgr3
      clear hown3 hgr3
      go_wp2
      go_roundw
      case rel => exact ⟨s, L ++ [dropO p s], by rw [HS.out]; go_num, by have := HS.out; omega, HAL.out, by have := HS.out; rw [List.length_append]; simp only [List.length_cons, List.length_nil]; omega, HO3.out, HG3.out⟩
      case measure => simp [intOf]; omega
    · have hall := HI.out.all
      rw [dropsO_out (by omega), List.append_nil] at hall
      have HAL := Lib.hid hall
      have hta : ¬ (a : Int) ≤ (t : Int) - 1 := by omega
      clear hall
      go_wp2_with fail
      go_ret
      exact ⟨_, rfl, by rw [← HAL.out]; exact HI.out.own, HI.out.gr⟩
end Go.Proofs.YtlnhbndghnkfmaaGreatDoor
