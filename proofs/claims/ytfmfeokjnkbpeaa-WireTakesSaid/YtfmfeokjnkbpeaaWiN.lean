/- Walks: the places of packets that may come through, the program's and the document's. -/
import Derived.Test.YtfmfeokjnkbpeaaWiM
namespace Go.Proofs.Ytfmfeokjnkbpeaa.Wi
open Go.RowKit
set_option linter.unusedSimpArgs false

/-- The places, up to k. -/
def rdyTo (s : Nat → Int) (L : List P) (k : Nat) : List Nat := (List.range k).filter fun j => match L[j]? with | some p => thr s p | none => false
theorem rdy_zero (s : Nat → Int) (L : List P) : rdyTo s L 0 = [] := rfl
theorem rdy_yes {s : Nat → Int} {L : List P} {k : Nat} (h : k < L.length) (ht : thr s L[k] = true) : rdyTo s L (k + 1) = rdyTo s L k ++ [k] := by
  unfold rdyTo
  rw [List.range_succ, List.filter_append, List.filter_cons, List.filter_nil, List.getElem?_eq_getElem h]
  simp [ht]
theorem rdy_no {s : Nat → Int} {L : List P} {k : Nat} (h : k < L.length) (ht : thr s L[k] = false) : rdyTo s L (k + 1) = rdyTo s L k := by
  unfold rdyTo
  rw [List.range_succ, List.filter_append, List.filter_cons, List.filter_nil, List.getElem?_eq_getElem h]
  simp [ht]
theorem rdy_le (s : Nat → Int) (L : List P) (k : Nat) : (rdyTo s L k).length ≤ k := by
  have := List.length_filter_le (fun j => match L[j]? with | some p => thr s p | none => false) (List.range k)
  rw [List.length_range] at this
  exact this
theorem rdy_mem {s : Nat → Int} {L : List P} {j : Nat} : j ∈ rdyTo s L L.length ↔ ∃ h : j < L.length, thr s L[j] = true := by
  unfold rdyTo
  rw [List.mem_filter, List.mem_range]
  constructor
  · rintro ⟨h, ht⟩
    rw [List.getElem?_eq_getElem h] at ht
    exact ⟨h, ht⟩
  · rintro ⟨h, ht⟩
    refine ⟨h, ?_⟩
    rw [List.getElem?_eq_getElem h]
    exact ht
def irow (K : List Nat) : List Value := K.map fun (j : Nat) => Value.int .i64 (j : Int)
/-- The call owns a slice of these numbers. -/
def OI (w : World) (B : Nat) (v : Value) (K : List Nat) : Prop := w.ownsRow B 3 1 v K.length (irow K)
theorem OI.gr {w w' : World} {B : Nat} {v : Value} {K : List Nat} (h : OI w B v K) (g : Gr w w') : OI w' B v K := own_gr h g
theorem OI.nil (w : World) (B : Nat) : OI w B (.slice none 0 0) [] := World.ownsRow_nil w B _ _
theorem infoInt : (Try.prog.info? 3).map (fun i => (i.zero, i.size, i.bytes)) = some (some (.int .i64 0), 1, 8) := by kernel_rfl
/-- A call's answer: numbers in new memory. -/
def RetPlaces (K : List Nat) (w : World) (e : Ending) (w' : World) : Prop := ∃ v, e = .returned v ∧ OI w' w.heap.size v K ∧ Gr w w'
def ReadyRel (s : Nat → Int) (L : List P) (vb : Value) (nx : Int) (w : World) (b i : Value) (wr : World) : Prop :=
  ∃ k : Nat, k ≤ L.length ∧ i = .int .i64 k ∧ OI wr (w.heap.size + 1) b (rdyTo s L k) ∧ NB wr w.heap.size vb nx s ∧ w.heap.size < wr.heap.size ∧ Gr w wr
theorem one_int (k : Nat) : ∀ u ∈ [Value.int .i64 (k : Int)], u.oneCell' = true := fun u hu => by rw [List.mem_singleton.1 hu]; rfl
theorem irow_snoc (K : List Nat) (k : Nat) : irow K ++ [Value.int .i64 (k : Int)] = irow (K ++ [k]) := by simp [irow]

set_option maxRecDepth 100000 in
set_option maxHeartbeats 4000000 in
theorem ready_any (v : Value) (L : List P) (nx : Int) (s : Nat → Int) (w : World) (hv : PV w v L) (hlen : L.length * 40 ≤ 140737488355328) :
    Calls Try.prog 7 #[.agg (ncells v nx s)] w fun e w' => RetPlaces (rdyTo s L L.length) w e w' := by
  obtain ⟨A, c, hva, hc1, ⟨hc2, -⟩, hPC⟩ := id hv
  unfold maxLen at hc2
  obtain ⟨i0, hi, hz0, hz1, hz2⟩ := info_parts infoInt
  obtain ⟨n, hn⟩ : ∃ n, n = L.length := ⟨_, rfl⟩
  have HN := Lib.hid hn
  rw [← hn] at hva hc1 hlen
  rw [← hn]
  subst hva
  have HPC := Lib.hid hPC
  obtain ⟨W, hW, hG, hB0, hz⟩ : ∃ W, W = w.alloc (.cells (ncells (.slice A n c) nx s) 25) ∧ Gr w W ∧ NB W w.heap.size (.slice A n c) nx s ∧ W.heap.size = w.heap.size + 1 := ⟨_, rfl, gr_box _ _, NB.new _ _ _ _, by simp⟩
  have HST : Hid (ReadyRel s L (.slice A n c) nx w (.slice none 0 0) (.int .i64 0) W) := Lib.hid ⟨0, Nat.zero_le _, rfl, OI.nil _ _, hB0, by omega, hG⟩
  have a0 := hB0.1
  clear hn hPC hv hG hB0 hz
  go_enter Try.func7, Try.ntmps7
  go_upto_region 2 with (fail)
  rw [← hW]
  clear hW
  go_wp2_with fail
  clear a0
  go_loopw [3, 9] (fun b i wr => ReadyRel s L (.slice A n c) nx w b i wr) (fun _ i _ => n - (intOf i).toNat)
  case atStart => exact HST.out
  case round =>
    obtain ⟨k, hk, rfl, hown, hB, hsz, hgr⟩ := hrel
    rw [← HN.out] at hk
    have HO := Lib.hid hown
    have HB := Lib.hid hB
    have HG := Lib.hid hgr
    clear hown hB HST
    by_cases hlt : k < n
    · have hkL : k < L.length := by rw [← HN.out]; exact hlt
      obtain ⟨pb, po, rfl, q0, q1, q2, q3⟩ := HPC.out k hkL
      replace q0 := hgr.cell q0
      replace q1 := hgr.cell q1
      replace q2 := hgr.cell q2
      replace q3 := hgr.cell q3
      have HY := Lib.hid (rdy_yes (s := s) hkL)
      have HX := Lib.hid (rdy_no (s := s) hkL)
      obtain ⟨p, hp⟩ : ∃ p, p = L[k] := ⟨_, rfl⟩
      rw [← hp] at q0 q1 q2 q3 HY HX
      have HT := Lib.hid (through_any (.slice (some ⟨pb, po, none⟩) n c) nx s p)
      have hle := rdy_le s L k
      obtain ⟨K, hK⟩ : ∃ K, K = rdyTo s L k := ⟨_, rfl⟩
      rw [← hK] at HO HY HX hle
      have HCC : Hid (K.length + 1 ≤ maxLen ∧ (K.length + 1) * 8 ≤ 140737488355328) := Lib.hid ⟨by unfold maxLen; omega, by omega⟩
      obtain ⟨W4, hW4, G4, hP4⟩ : ∃ W4, W4 = wr.alloc (.cells (pcells p) 31) ∧ Gr wr W4 ∧ (W4.cell? ⟨wr.heap.size, 0, none⟩ = some (.int .i64 p.id) ∧ W4.cell? ⟨wr.heap.size, 1, none⟩ = some (.int .i64 p.src) ∧ W4.cell? ⟨wr.heap.size, 2, none⟩ = some (.int .i64 p.dst) ∧ W4.cell? ⟨wr.heap.size, 3, none⟩ = some (.string p.body)) := ⟨_, rfl, gr_box _ _, PB.new _ _⟩
      obtain ⟨a0, a1, a2, a3, a4, a5, a6, a7, a8, a9⟩ := HB.out.gr G4
      obtain ⟨c0, c1, c2, c3⟩ := hP4
      have HG4 := Lib.hid G4
      have HH4 := Lib.hid hW4
      clear hp hK hle G4 hW4
      go_upto_region 5 with (fail)
      rw [← HH4.out]
      clear q0 q1 q2 q3
      go_wp2_with fail
      clear a0 a1 a2 a3 a4 a5 a6 a7 a8 a9 c0 c1 c2 c3
      refine (HT.out _).mono ?_
      rintro e w5 ⟨rfl, g5⟩
      have HG5 := Lib.hid (HG4.out.trans g5)
      clear g5
      rcases ht : thr s p with _ | _
      · have HX := Lib.hid (HX.out ht)
        clear ht
        go_wp2_with fail
        go_roundw
        case rel => exact ⟨k + 1, by rw [← HN.out]; omega, by go_num, by rw [HX.out]; exact HO.out.gr HG5.out, HB.out.gr HG5.out, Nat.lt_of_lt_of_le hsz HG5.out.size, hgr.trans HG5.out⟩
        case measure => simp [intOf]; omega
      · have HY := Lib.hid (HY.out ht)
        clear ht HX
        have HR : Hid (w5.ownsRow (w.heap.size + 1) 3 1 u3 K.length (irow K)) := Lib.hid (HO.out.gr HG5.out)
        go_wp2_with (at_builtin; refine wpList_append_sl _ rfl (.tmp 17) (.tmp 19) 27 rfl (w.heap.size + 1) 3 i0 _ 1 8 Try.underlying27 hi hz0 hz1 hz2 rfl (by decide) u3 K.length (irow K) rfl (own_gr HR.out (gr_box _ _)) (.slice (some ⟨w5.heap.size, 0, none⟩) 1 1) 1 _ rfl (sl_new w5 #[.int .i64 (k : Int)] 3 1 1 rfl (by unfold maxLen; omega)) (one_int k) HCC.out.1 HCC.out.2 ?g1 (K.length + 1) rfl ?_)
        case g1 =>
          go_light
          have := HG5.out.size
          simp
          omega
        intro A6 c6 w6 hown6 hgr6 hat6
        have hk6 : Kp u3.ownBlock wr w6 := Kp.trans (Kp.of_gr (HG5.out.trans (gr_box _ _))) hgr6
        have HO6 : Hid (OI w6 (w.heap.size + 1) (.slice A6 (K.length + 1) c6) (rdyTo s L (k + 1))) := by
          unfold OI
          rw [HY.out, ← irow_snoc, List.length_append]
          exact hown6
        have HB6 : Hid (NB w6 w.heap.size (.slice (some ⟨pb, po, none⟩) n c) nx s) := Lib.hid (HB.out.kp hk6 (own_far HR.out (Nat.lt_succ_self _)))
        have HG6 : Hid (Gr w w6) := Lib.hid (Below.trans HG.out (Kp.below hk6 HG.out.size (fun g hg => by have := (HR.out.lt g hg).1; omega)))
        have hs6 : w.heap.size < w6.heap.size := Nat.lt_of_lt_of_le hsz hk6.size
        obtain ⟨m6, hm6⟩ : ∃ m, m = K.length + 1 := ⟨_, rfl⟩
        rw [← hm6] at HO6 ⊢
        clear hown6 hgr6 hat6 hk6 hm6
        go_wp2
        go_roundw
        case rel => exact ⟨k + 1, by rw [← HN.out]; omega, by go_num, HO6.out, HB6.out, hs6, HG6.out⟩
        case measure => simp [intOf]; omega
    · have hkn : k = n := by omega
      rw [hkn] at HO
      go_wp2_with fail
      go_ret
      exact ⟨_, rfl, own_le HO.out (Nat.le_succ _), hgr⟩

set_option maxRecDepth 100000 in
set_option maxHeartbeats 4000000 in
theorem rready_any (v : Value) (L : List P) (nx : Int) (s : Nat → Int) (w : World) (hv : PV w v L) (hlen : L.length * 40 ≤ 140737488355328) :
    Calls Try.prog 8 #[.agg (ncells v nx s)] w fun e w' => RetPlaces (rdyTo s L L.length) w e w' := by
  obtain ⟨A, c, hva, hc1, ⟨hc2, -⟩, hPC⟩ := id hv
  unfold maxLen at hc2
  obtain ⟨i0, hi, hz0, hz1, hz2⟩ := info_parts infoInt
  obtain ⟨n, hn⟩ : ∃ n, n = L.length := ⟨_, rfl⟩
  have HN := Lib.hid hn
  rw [← hn] at hva hc1 hlen
  rw [← hn]
  subst hva
  have HPC := Lib.hid hPC
  obtain ⟨W, hW, hG, hB0, hz⟩ : ∃ W, W = w.alloc (.cells (ncells (.slice A n c) nx s) 25) ∧ Gr w W ∧ NB W w.heap.size (.slice A n c) nx s ∧ W.heap.size = w.heap.size + 1 := ⟨_, rfl, gr_box _ _, NB.new _ _ _ _, by simp⟩
  have HST : Hid (ReadyRel s L (.slice A n c) nx w (.slice none 0 0) (.int .i64 0) W) := Lib.hid ⟨0, Nat.zero_le _, rfl, OI.nil _ _, hB0, by omega, hG⟩
  have a0 := hB0.1
  clear hn hPC hv hG hB0 hz
  go_enter Try.func8, Try.ntmps8
  go_wp2_with fail
  rw [← hW]
  clear hW a0
  go_loopw [3, 4] (fun b i wr => ReadyRel s L (.slice A n c) nx w b i wr) (fun _ i _ => n - (intOf i).toNat)
  case atStart => exact HST.out
  case round =>
    obtain ⟨k, hk, rfl, hown, hB, hsz, hgr⟩ := hrel
    rw [← HN.out] at hk
    have HO := Lib.hid hown
    have HB := Lib.hid hB
    have HG := Lib.hid hgr
    clear hown hB HST
    by_cases hlt : k < n
    · have hkL : k < L.length := by rw [← HN.out]; exact hlt
      obtain ⟨pb, po, rfl, q0, q1, q2, q3⟩ := HPC.out k hkL
      replace q0 := hgr.cell q0
      replace q1 := hgr.cell q1
      replace q2 := hgr.cell q2
      replace q3 := hgr.cell q3
      have HY := Lib.hid (rdy_yes (s := s) hkL)
      have HX := Lib.hid (rdy_no (s := s) hkL)
      obtain ⟨p, hp⟩ : ∃ p, p = L[k] := ⟨_, rfl⟩
      rw [← hp] at q0 q1 q2 q3 HY HX
      have HT := Lib.hid (passes_any (.slice (some ⟨pb, po, none⟩) n c) nx s p)
      have hle := rdy_le s L k
      obtain ⟨K, hK⟩ : ∃ K, K = rdyTo s L k := ⟨_, rfl⟩
      rw [← hK] at HO HY HX hle
      have HCC : Hid (K.length + 1 ≤ maxLen ∧ (K.length + 1) * 8 ≤ 140737488355328) := Lib.hid ⟨by unfold maxLen; omega, by omega⟩
      have HS : Hid (NB wr.drew w.heap.size (.slice (some ⟨pb, po, none⟩) n c) nx s ∧ PCell wr.drew pb (po + k * 4) p ∧ Gr wr wr.drew) := Lib.hid ⟨HB.out.gr (Gr.refl _).drew, PCell.gr ⟨q0, q1, q2, q3⟩ (Gr.refl _).drew, (Gr.refl _).drew⟩
      have a0 := HB.out.1
      have hk0 : (0 : Int) ≤ (k : Int) := Int.natCast_nonneg _
      have hk1 : (k : Int) < (n : Int) := by omega
      clear hp hK hle q0 q1 q2 q3
      go_upto_region 5 with (fail)
      clear a0
      refine qRegion (fun w' => NB w' w.heap.size (.slice (some ⟨pb, po, none⟩) n c) nx s ∧ PCell w' pb (po + k * 4) p ∧ Gr wr w') (by kernel_rfl) (by kernel_rfl) HS.out ?_
      iterate 6
        refine qTake (by kernel_rfl) ?_
        apply Exists.intro
        refine ⟨fun wq hq => ?_, ?_⟩
        · go_light
          obtain ⟨⟨h0, h1, h2, h3, h4, h5, h6, h7, h8, h9⟩, ⟨q0, q1, q2, q3⟩, -⟩ := hq
          go_simp
          try with_reducible rfl
          done
        try simp only [Act.put, List.setIfInBounds_toArray, List.set_cons_zero, List.set_cons_succ]
      refine qCall (by kernel_rfl) ?_
      apply Exists.intro
      refine ⟨?_, ?_⟩
      · apply Exists.intro
        apply Exists.intro
        refine ⟨fun wq => ?_, fun wq hq => ?_⟩
        · go_light
          go_simp
          exact ⟨rfl, rfl⟩
        · exact (HT.out wq).mono fun e w2 h => ⟨h.1, hq.1.gr h.2, hq.2.1.gr h.2, hq.2.2.trans h.2⟩
      try simp only [Act.put, List.setIfInBounds_toArray, List.set_cons_zero, List.set_cons_succ]
      refine qNil ?_
      intro w5 hC
      have HG5 := Lib.hid hC.2.2
      clear hC HS
      rcases ht : thr s p with _ | _
      · have HX := Lib.hid (HX.out ht)
        clear ht
        go_wp2_with fail
        go_roundw
        case rel => exact ⟨k + 1, by rw [← HN.out]; omega, by go_num, by rw [HX.out]; exact HO.out.gr HG5.out, HB.out.gr HG5.out, Nat.lt_of_lt_of_le hsz HG5.out.size, hgr.trans HG5.out⟩
        case measure => simp [intOf]; omega
      · have HY := Lib.hid (HY.out ht)
        clear ht HX
        have HR : Hid (w5.ownsRow (w.heap.size + 1) 3 1 u3 K.length (irow K)) := Lib.hid (HO.out.gr HG5.out)
        go_wp2_with (at_builtin; refine wpList_append_sl _ rfl (.tmp 19) (.tmp 21) 27 rfl (w.heap.size + 1) 3 i0 _ 1 8 Try.underlying27 hi hz0 hz1 hz2 rfl (by decide) u3 K.length (irow K) rfl (own_gr HR.out (gr_box _ _)) (.slice (some ⟨w5.heap.size, 0, none⟩) 1 1) 1 _ rfl (sl_new w5 #[.int .i64 (k : Int)] 3 1 1 rfl (by unfold maxLen; omega)) (one_int k) HCC.out.1 HCC.out.2 ?g2 (K.length + 1) rfl ?_)
        case g2 =>
          go_light
          have := HG5.out.size
          simp
          omega
        intro A6 c6 w6 hown6 hgr6 hat6
        have hk6 : Kp u3.ownBlock wr w6 := Kp.trans (Kp.of_gr (HG5.out.trans (gr_box _ _))) hgr6
        have HO6 : Hid (OI w6 (w.heap.size + 1) (.slice A6 (K.length + 1) c6) (rdyTo s L (k + 1))) := by
          unfold OI
          rw [HY.out, ← irow_snoc, List.length_append]
          exact hown6
        have HB6 : Hid (NB w6 w.heap.size (.slice (some ⟨pb, po, none⟩) n c) nx s) := Lib.hid (HB.out.kp hk6 (own_far HR.out (Nat.lt_succ_self _)))
        have HG6 : Hid (Gr w w6) := Lib.hid (Below.trans HG.out (Kp.below hk6 HG.out.size (fun g hg => by have := (HR.out.lt g hg).1; omega)))
        have hs6 : w.heap.size < w6.heap.size := Nat.lt_of_lt_of_le hsz hk6.size
        obtain ⟨m6, hm6⟩ : ∃ m, m = K.length + 1 := ⟨_, rfl⟩
        rw [← hm6] at HO6 ⊢
        clear hown6 hgr6 hat6 hk6 hm6
        go_wp2
        go_roundw
        case rel => exact ⟨k + 1, by rw [← HN.out]; omega, by go_num, HO6.out, HB6.out, hs6, HG6.out⟩
        case measure => simp [intOf]; omega
    · have hkn : k = n := by omega
      rw [hkn] at HO
      have a0 := HB.out.1
      go_wp2_with fail
      go_ret
      exact ⟨_, rfl, own_le HO.out (Nat.le_succ _), hgr⟩
end Go.Proofs.Ytfmfeokjnkbpeaa.Wi
